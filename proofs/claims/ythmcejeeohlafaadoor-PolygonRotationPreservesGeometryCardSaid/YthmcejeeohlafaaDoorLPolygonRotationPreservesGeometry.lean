/- Proved: an exact rotation of a valid polygon keeps validity, DoubleArea and location, and rotating it back restores it; where the rotation is not exact, nothing is returned (the law PolygonRotationPreservesGeometry returns true).
Conditions: none on the arguments: for every polygon, every index and every point. The table of package rotation lies as the program text lays it (the card ties it). -/
import Derived.Test.YthmcejeeohlafaaDoorPolN
import Derived.Test.YthmcejeeohlafaaDoorPolV
import Derived.Test.YthmcejeeohlafaaDoorPolU
import Derived.Test.YthmcejeeohlafaaDoorPolFr
import Derived.Test.YthmcejeeohlafaaDoorTie
import Derived.Test.YthmcejeeohlafaaDoorCards
import Derived.SevenTiedAt
import Derived.Deep.DeepCutAuto
namespace Go.Proofs.YthmcejeeohlafaaDoor.polygonRotationPreservesGeometry
open Go.ChangeShapes Go.WideShapes Go.ChangeAt Go.RowKit
set_option linter.unusedVariables false
set_option linter.unusedSimpArgs false

theorem tdiv2_h {x M : Int} (h1 : -(2 * M) ≤ x) (h2 : x ≤ 2 * M) : -M ≤ x.tdiv 2 ∧ x.tdiv 2 ≤ M := by
  rcases Int.le_total 0 x with h | h
  · rw [Int.tdiv_eq_ediv_of_nonneg h]; omega
  · obtain ⟨y, rfl⟩ : ∃ y, x = -y := ⟨-x, by omega⟩
    rw [Int.neg_tdiv, Int.tdiv_eq_ediv_of_nonneg (by omega)]; omega
theorem tmod_bd (a : Int) : -35 ≤ a.tmod 36 ∧ a.tmod 36 ≤ 35 := by
  rcases Int.le_total 0 a with h | h
  · rw [Int.tmod_eq_emod_of_nonneg h]; omega
  · obtain ⟨y, rfl⟩ : ∃ y, a = -y := ⟨-a, by omega⟩
    rw [Int.neg_tmod, Int.tmod_eq_emod_of_nonneg (by omega)]; omega
def okT (q x y : Int) : Prop := (x * (Rot.csF (q % 36).toNat).1 - y * (Rot.csF (q % 36).toNat).2) % 65 = 0 ∧ (x * (Rot.csF (q % 36).toNat).2 + y * (Rot.csF (q % 36).toNat).1) % 65 = 0
instance (q x y : Int) : Decidable (okT q x y) := by unfold okT; exact inferInstance
def trX (q x y : Int) : Int := (x * (Rot.csF (q % 36).toNat).1 - y * (Rot.csF (q % 36).toNat).2) / 65
def trY (q x y : Int) : Int := (x * (Rot.csF (q % 36).toNat).2 + y * (Rot.csF (q % 36).toNat).1) / 65
def trL (q : Int) (ps : List (Int × Int)) : List (Int × Int) := ps.map fun p => (trX q p.1 p.2, trY q p.1 p.2)
theorem trL_len (q : Int) (ps : List (Int × Int)) : (trL q ps).length = ps.length := by simp [trL]
theorem trL_at (q : Int) (ps : List (Int × Int)) {i : Nat} (hi : i < ps.length) : cx (trL q ps) i = trX q (cx ps i) (cy ps i) ∧ cy (trL q ps) i = trY q (cx ps i) (cy ps i) := by
  unfold cx cy trL
  rw [List.getD_eq_getElem?_getD, List.getD_eq_getElem?_getD, List.getElem?_map, List.getElem?_eq_getElem hi]
  exact ⟨rfl, rfl⟩
theorem okT_turned {q x y : Int} (h : okT q x y) : Turned q x y (trX q x y) (trY q x y) := by
  obtain ⟨a, b⟩ := h
  unfold Turned trX trY
  constructor <;> omega
theorem tr_bd {q x y M : Int} (h0 : 0 ≤ M) (hx : -M ≤ x ∧ x ≤ M) (hy : -M ≤ y ∧ y ≤ M) : (-(2 * M) ≤ trX q x y ∧ trX q x y ≤ 2 * M) ∧ -(2 * M) ≤ trY q x y ∧ trY q x y ≤ 2 * M := by
  obtain ⟨c, s⟩ := Rot.csF_bd (q % 36).toNat
  have m1 := mul_bd hx c
  have m2 := mul_bd hy s
  have m3 := mul_bd hx s
  have m4 := mul_bd hy c
  unfold trX trY
  omega
theorem first_bad (q : Int) (ps : List (Int × Int)) : ∀ n, n ≤ ps.length → (∀ i, i < n → okT q (cx ps i) (cy ps i)) ∨ ∃ m, m < n ∧ ¬ okT q (cx ps m) (cy ps m) ∧ ∀ i, i < m → okT q (cx ps i) (cy ps i)
  | 0, _ => .inl fun i h => absurd h (Nat.not_lt_zero _)
  | n + 1, h => by
    rcases first_bad q ps n (by omega) with k | ⟨m, k1, k2⟩
    · by_cases g : okT q (cx ps n) (cy ps n)
      · left
        intro i hi
        by_cases e : i = n
        · subst e; exact g
        · exact k i (by omega)
      · exact .inr ⟨n, by omega, g, k⟩
    · exact .inr ⟨m, by omega, k2⟩
theorem half_to (x y u v : Int) (w : World) (hx : InR x) (hy : InR y) (h1 : Hid (x.tdiv 2 = u)) (h2 : Hid (y.tdiv 2 = v)) :
    Calls Tryd.prog 17 #[.agg #[.int .i64 x, .int .i64 y]] w fun e w' => e = .returned (.agg #[.int .i64 u, .int .i64 v]) ∧ Below w.heap.size w w' := by
  have := half_is x y w hx hy
  rw [h1.out, h2.out] at this
  exact this
/-- One point, rotated. -/
theorem rot1_yes (b : Nat) (x y X Y q : Int) (w : World) (hT : Rot.Tab w) (hP : PRow w (some ⟨b, 0, none⟩) [(x, y)]) (hx : InR x) (hy : InR y) (hq : -9223372036854775808 ≤ q ∧ q ≤ 9223372036854775807) (h : Turned q x y X Y) (hX : InR X) (hY : InR Y) :
    Calls Tryd.prog 22 #[.slice (some ⟨b, 0, none⟩) 1 1, .int .i64 q] w fun e w' => (∃ g' c' : Nat, e = .returned (.tuple #[.slice (some ⟨g', 0, none⟩) 1 c', .bool true]) ∧ PRow w' (some ⟨g', 0, none⟩) [(X, Y)]) ∧ Below w.heap.size w w' :=
  rotate_yes (some ⟨b, 0, none⟩) 1 1 [(x, y)] [(X, Y)] q w hT (by simp) rfl rfl (by simp) hP (fun i hi => by
    obtain rfl : i = 0 := by simpa using hi
    exact ⟨hx, hy⟩) hq (fun i hi => by
    obtain rfl : i = 0 := by simpa using hi
    exact h) (fun i hi => by
    obtain rfl : i = 0 := by simpa using hi
    unfold InR at hX hY
    exact ⟨⟨by show _ ≤ X; omega, by show X ≤ _; omega⟩, by show _ ≤ Y; omega, by show Y ≤ _; omega⟩)
theorem rot1_no (b : Nat) (x y q : Int) (w : World) (hT : Rot.Tab w) (hP : PRow w (some ⟨b, 0, none⟩) [(x, y)]) (hx : InR x) (hy : InR y) (hq : -9223372036854775808 ≤ q ∧ q ≤ 9223372036854775807) (h : ¬ okT q x y) :
    Calls Tryd.prog 22 #[.slice (some ⟨b, 0, none⟩) 1 1, .int .i64 q] w fun e w' => e = .returned (.tuple #[.slice none 0 0, .bool false]) ∧ Below w.heap.size w w' :=
  rotate_not (some ⟨b, 0, none⟩) 1 1 [(x, y)] [(0, 0)] q w hT rfl rfl 0 (by simp) (by simp) hP (fun i hi => by
    obtain rfl : i = 0 := by simpa using hi
    exact ⟨hx, hy⟩) hq (fun i hi => by omega) (fun i hi => by omega) h

set_option maxRecDepth 100000 in
set_option maxHeartbeats 16000000 in
theorem walk_no {w : World} (ao : Option Addr) (cap : Nat) (ps : List (Int × Int)) (hle : ps.length ≤ 9223372036854775807) (hP : PRow w ao ps) (a : Int) (x1 x2 : Int) (hT : Rot.Tab w) (HL : Hid (littleB ps = true)) (jx1 : InV x1) (jx2 : InV x2) (m : Nat) (hm : m < ps.length) (HG : Hid (¬ okT (a.tmod 36) (cx ps m) (cy ps m) ∧ ∀ i, i < m → okT (a.tmod 36) (cx ps i) (cy ps i))) :
    Calls Tryd.prog 7 #[.slice ao ps.length cap, .int .i64 a, .agg #[.int .i64 x1, .int .i64 x2]] w fun e w' => e = .returned (.bool true) ∧ Below w.heap.size w w' := by
  have HM1 : Hid (mayB x1 x2 = true) := Lib.hid ((mayB_iff x1 x2).2 ⟨jx1, jx2⟩)
  obtain ⟨hva, hS⟩ := (littleB_iff ps).1 HL.out
  obtain ⟨h0, h12, hv⟩ : 0 < ps.length ∧ ps.length ≤ 12 ∧ AllV ps := by
    have hc := hva
    unfold validP at hc
    rw [Bool.and_eq_true] at hc
    obtain ⟨a, b, c⟩ := (validC_iff ps).1 hc.1
    exact ⟨by omega, b, c⟩
  have hvr := hv.allr2
  have ix1 := jx1.inr
  have ix2 := jx2.inr
  obtain ⟨r1, r2⟩ := tmod_bd a
  obtain ⟨r, htm⟩ : ∃ r, a.tmod 36 = r := ⟨_, rfl⟩
  rw [htm] at r1 r2 HG
  have hq : -9223372036854775808 ≤ r ∧ r ≤ 9223372036854775807 := by omega
  obtain ⟨us, hus⟩ : ∃ us, trL r ps = us := ⟨_, rfl⟩
  have hul : us.length = ps.length := by rw [← hus]; exact trL_len r ps
  have hub0 : ∀ i, i < ps.length → (-878800000 ≤ cx us i ∧ cx us i ≤ 878800000) ∧ -878800000 ≤ cy us i ∧ cy us i ≤ 878800000 := fun i hi => by
    rw [← hus, (trL_at r ps hi).1, (trL_at r ps hi).2]
    exact tr_bd (M := 439400000) (by omega) (hv i hi).1 (hv i hi).2
  have hub : Hid (∀ i, i < m → (-1000000000000 ≤ cx us i ∧ cx us i ≤ 1000000000000) ∧ -1000000000000 ≤ cy us i ∧ cy us i ≤ 1000000000000) := Lib.hid (fun i hi => by have := hub0 i (by omega); omega)
  have hto : Hid (∀ i, i < m → Turned r (cx ps i) (cy ps i) (cx us i) (cy us i)) := Lib.hid (fun i hi => by
    rw [← hus, (trL_at r ps (show i < ps.length by omega)).1, (trL_at r ps (show i < ps.length by omega)).2]
    exact okT_turned (HG.out.2 i hi))
  have hno : Hid (¬ okT r (cx ps m) (cy ps m)) := Lib.hid HG.out.1
  have HUL := Lib.hid hul
  clear hub0 hus HG hva hS jx1 jx2 hul
  have hB : Below w.heap.size w w := Below.refl _ _
  go_enter Tryd.func7, Tryd.ntmps7
  go_wp2_with fail
  refine (head_any _ (hT.alloc _)).mono ?_; rintro e w1 ⟨rfl, hb⟩
  replace hT := Rot.Tab.below (Rot.Tab.alloc hT _) hb
  have hXx := blk_call (blk_new w (.cells #[.int .i64 x1, .int .i64 x2] 25) (w.heap.size) (by simp)) hb
  replace hP := prow_below (prow_alloc hP _) hb
  replace hB := belT (belA hB _) hb
  clear hb
  go_wp2_with fail
  refine (little_is _ _ cap ps true _ rfl HL hle hP).mono ?_; rintro e w2 ⟨rfl, hb⟩
  replace hT := Rot.Tab.below hT hb
  replace hXx := blk_call hXx hb
  replace hP := prow_below hP hb
  replace hB := belT hB hb
  clear hb
  have fhXx0 := blk_cell hXx 0 _ rfl
  have fhXx1 := blk_cell hXx 1 _ rfl
  have fhXxz := blk_lt hXx
  go_wp2_with fail
  refine (may_any x1 x2 true _ HM1).mono ?_; rintro e w3 ⟨rfl, hb⟩
  replace hT := Rot.Tab.below hT hb
  replace hXx := blk_call hXx hb
  replace hP := prow_below hP hb
  replace hB := belT hB hb
  clear hb
  clear fhXx0 fhXx1 fhXxz
  go_wp2_with fail
  refine (rotate_not _ _ cap ps us r _ hT rfl HUL.out m hm (by omega) hP hvr hq hto.out hub.out hno.out).mono ?_; rintro e w4 ⟨rfl, hb⟩
  replace hT := Rot.Tab.below hT hb
  replace hXx := blk_call hXx hb
  replace hP := prow_below hP hb
  replace hB := belT hB hb
  clear hb
  go_wp2_with fail
  go_ret
  exact ⟨rfl, hB⟩

set_option maxRecDepth 100000 in
set_option maxHeartbeats 16000000 in
theorem walk_turned {w : World} (ao : Option Addr) (cap : Nat) (ps : List (Int × Int)) (hle : ps.length ≤ 9223372036854775807) (hP : PRow w ao ps) (a : Int) (x1 x2 : Int) (hT : Rot.Tab w) (HL : Hid (littleB ps = true)) (jx1 : InV x1) (jx2 : InV x2) (HG : Hid ((∀ i, i < ps.length → okT (a.tmod 36) (cx ps i) (cy ps i)) ∧ okT (a.tmod 36) (x1.tdiv 2) (x2.tdiv 2))) :
    Calls Tryd.prog 7 #[.slice ao ps.length cap, .int .i64 a, .agg #[.int .i64 x1, .int .i64 x2]] w fun e w' => e = .returned (.bool true) ∧ Below w.heap.size w w' := by
  have HM1 : Hid (mayB x1 x2 = true) := Lib.hid ((mayB_iff x1 x2).2 ⟨jx1, jx2⟩)
  obtain ⟨hva, hS⟩ := (littleB_iff ps).1 HL.out
  obtain ⟨h0, h12, hv⟩ : 0 < ps.length ∧ ps.length ≤ 12 ∧ AllV ps := by
    have hc := hva
    unfold validP at hc
    rw [Bool.and_eq_true] at hc
    obtain ⟨a, b, c⟩ := (validC_iff ps).1 hc.1
    exact ⟨by omega, b, c⟩
  have hvr := hv.allr2
  have ix1 := jx1.inr
  have ix2 := jx2.inr
  obtain ⟨r1, r2⟩ := tmod_bd a
  obtain ⟨r, htm⟩ : ∃ r, a.tmod 36 = r := ⟨_, rfl⟩
  rw [htm] at r1 r2 HG
  have hq : -9223372036854775808 ≤ r ∧ r ≤ 9223372036854775807 := by omega
  obtain ⟨us, hus⟩ : ∃ us, trL r ps = us := ⟨_, rfl⟩
  have hul : us.length = ps.length := by rw [← hus]; exact trL_len r ps
  have hub0 : ∀ i, i < ps.length → (-878800000 ≤ cx us i ∧ cx us i ≤ 878800000) ∧ -878800000 ≤ cy us i ∧ cy us i ≤ 878800000 := fun i hi => by
    rw [← hus, (trL_at r ps hi).1, (trL_at r ps hi).2]
    exact tr_bd (M := 439400000) (by omega) (hv i hi).1 (hv i hi).2
  have hub : Hid (∀ i, i < ps.length → (-1000000000000 ≤ cx us i ∧ cx us i ≤ 1000000000000) ∧ -1000000000000 ≤ cy us i ∧ cy us i ≤ 1000000000000) := Lib.hid (fun i hi => by have := hub0 i hi; omega)
  have hto : Hid (∀ i, i < ps.length → Turned r (cx ps i) (cy ps i) (cx us i) (cy us i)) := Lib.hid (fun i hi => by
    rw [← hus, (trL_at r ps hi).1, (trL_at r ps hi).2]
    exact okT_turned (HG.out.1 i hi))
  have hpb : Hid (∀ i, i < us.length → (-1000000000000 ≤ cx ps i ∧ cx ps i ≤ 1000000000000) ∧ -1000000000000 ≤ cy ps i ∧ cy ps i ≤ 1000000000000) := Lib.hid (fun i hi => by have := hv i (by omega); unfold InV at this; omega)
  obtain ⟨cc, hcc⟩ : ∃ c, (Rot.csF (r % 36).toNat).1 = c := ⟨_, rfl⟩
  obtain ⟨ss, hss⟩ : ∃ c, (Rot.csF (r % 36).toNat).2 = c := ⟨_, rfl⟩
  have hcs : cc * cc + ss * ss = 4225 := by rw [← hcc, ← hss]; exact csF_sq r
  obtain ⟨bc, bs⟩ := Rot.csF_bd (r % 36).toNat
  rw [hcc] at bc
  rw [hss] at bs
  have htn : ∀ i, i < ps.length → Tn cc ss (cx ps i) (cy ps i) (cx us i) (cy us i) := fun i hi => by rw [← hcc, ← hss]; exact hto.out i hi
  have hbk : ∀ q', (r + q') % 36 = 0 → ∀ i, i < us.length → Turned q' (cx us i) (cy us i) (cx ps i) (cy ps i) := fun q' h i hi => by
    obtain ⟨e1, e2⟩ := csF_neg r q' h
    have := tn_back hcs (htn i (by omega))
    unfold Turned
    rw [e1, e2, hcc, hss]
    exact this
  have hbk1 := Lib.hid (hbk (-r) (by omega))
  have hbk2 := Lib.hid (hbk (36 - r) (by omega))
  have hq2 : -9223372036854775808 ≤ -r ∧ -r ≤ 9223372036854775807 := by omega
  have hq3 : -9223372036854775808 ≤ 36 - r ∧ 36 - r ≤ 9223372036854775807 := by omega
  obtain ⟨p5, p6⟩ := tdiv2_h (x := x1) (M := 219700000) (by have := jx1.1; omega) (by have := jx1.2; omega)
  obtain ⟨p7, p8⟩ := tdiv2_h (x := x2) (M := 219700000) (by have := jx2.1; omega) (by have := jx2.2; omega)
  obtain ⟨y1, hy1⟩ : ∃ m, x1.tdiv 2 = m := ⟨_, rfl⟩
  obtain ⟨y2, hy2⟩ : ∃ m, x2.tdiv 2 = m := ⟨_, rfl⟩
  rw [hy1] at p5 p6
  rw [hy2] at p7 p8
  rw [hy1, hy2] at HG
  have iy1 : InR y1 := by unfold InR; omega
  have iy2 : InR y2 := by unfold InR; omega
  obtain ⟨A, hA⟩ : ∃ A, area2 ps = A := ⟨_, rfl⟩
  obtain ⟨t, ht⟩ : ∃ t, locE ps y1 y2 = t := ⟨_, rfl⟩
  have hu0 : 0 < us.length := by omega
  have hu12 : us.length ≤ 12 := by omega
  have hule : us.length ≤ 9223372036854775807 := by omega
  have HVU : Hid (validP us = true) := Lib.hid (tnL_valid hcs bc bs hS hul htn hva)
  have huv : AllV us := by
    have hc := HVU.out
    unfold validP at hc
    rw [Bool.and_eq_true] at hc
    exact ((validC_iff us).1 hc.1).2.2
  have hur := huv.allr2
  have HA : Hid (area2 ps = A) := Lib.hid hA
  have HAU : Hid (area2 us = A) := Lib.hid (by rw [tnL_area hcs hul htn]; exact hA)
  have HL2 : Hid (locE ps y1 y2 = t) := Lib.hid ht
  obtain ⟨⟨k1, k2⟩, k3, k4⟩ := tr_bd (q := r) (x := y1) (y := y2) (M := 219700000) (by omega) ⟨p5, p6⟩ ⟨p7, p8⟩
  have hty := okT_turned HG.out.2
  obtain ⟨Y1, hY1⟩ : ∃ m, trX r y1 y2 = m := ⟨_, rfl⟩
  obtain ⟨Y2, hY2⟩ : ∃ m, trY r y1 y2 = m := ⟨_, rfl⟩
  rw [hY1] at k1 k2
  rw [hY2] at k3 k4
  rw [hY1, hY2] at hty
  have iY1 : InR Y1 := by unfold InR; omega
  have iY2 : InR Y2 := by unfold InR; omega
  have HTY := Lib.hid hty
  have HL1 : Hid (locE us Y1 Y2 = t) := Lib.hid (by
    rw [← ht]
    refine tnL_loc hcs h0 hul htn ?_
    rw [← hcc, ← hss]
    exact hty)
  clear hty hY1 hY2 k1 k2 k3 k4
  have HUL := Lib.hid hul
  clear hub0 hus HG hva hS jx1 jx2 hA ht htn hbk hcs hcc hss bc bs p5 p6 p7 p8 hul
  have hB : Below w.heap.size w w := Below.refl _ _
  go_enter Tryd.func7, Tryd.ntmps7
  go_wp2_with fail
  refine (head_any _ (hT.alloc _)).mono ?_; rintro e w1 ⟨rfl, hb⟩
  replace hT := Rot.Tab.below (Rot.Tab.alloc hT _) hb
  have hXx := blk_call (blk_new w (.cells #[.int .i64 x1, .int .i64 x2] 25) (w.heap.size) (by simp)) hb
  replace hP := prow_below (prow_alloc hP _) hb
  replace hB := belT (belA hB _) hb
  clear hb
  go_wp2_with fail
  refine (little_is _ _ cap ps true _ rfl HL hle hP).mono ?_; rintro e w2 ⟨rfl, hb⟩
  replace hT := Rot.Tab.below hT hb
  replace hXx := blk_call hXx hb
  replace hP := prow_below hP hb
  replace hB := belT hB hb
  clear hb
  have fhXx0 := blk_cell hXx 0 _ rfl
  have fhXx1 := blk_cell hXx 1 _ rfl
  have fhXxz := blk_lt hXx
  go_wp2_with fail
  refine (may_any x1 x2 true _ HM1).mono ?_; rintro e w3 ⟨rfl, hb⟩
  replace hT := Rot.Tab.below hT hb
  replace hXx := blk_call hXx hb
  replace hP := prow_below hP hb
  replace hB := belT hB hb
  clear hb
  clear fhXx0 fhXx1 fhXxz
  go_wp2_with fail
  refine (rotate_yes _ _ cap ps us r _ hT h0 rfl HUL.out (by omega) hP hvr hq hto.out hub.out).mono ?_; rintro e w4 ⟨⟨g, c, rfl, hU⟩, hb⟩
  replace hT := Rot.Tab.below hT hb
  replace hXx := blk_call hXx hb
  replace hP := prow_below hP hb
  replace hB := belT hB hb
  clear hb
  go_wp2_with fail
  refine (rotate_yes _ _ c us ps (-r) _ hT hu0 rfl HUL.out.symm (by omega) hU hur hq2 hbk1.out hpb.out).mono ?_; rintro e w5 ⟨⟨g2, c2, rfl, hR⟩, hb⟩
  replace hT := Rot.Tab.below hT hb
  replace hXx := blk_call hXx hb
  replace hP := prow_below hP hb
  replace hU := prow_below hU hb
  replace hB := belT hB hb
  clear hb
  go_wp2_with fail
  refine (rotate_yes _ _ c us ps (36 - r) _ hT hu0 rfl HUL.out.symm (by omega) hU hur hq3 hbk2.out hpb.out).mono ?_; rintro e w6 ⟨⟨g3, c3, rfl, hV⟩, hb⟩
  replace hT := Rot.Tab.below hT hb
  replace hXx := blk_call hXx hb
  replace hP := prow_below hP hb
  replace hU := prow_below hU hb
  replace hR := prow_below hR hb
  replace hB := belT hB hb
  clear hb
  have fhXx0 := blk_cell hXx 0 _ rfl
  have fhXx1 := blk_cell hXx 1 _ rfl
  have fhXxz := blk_lt hXx
  go_wp2_with fail
  refine (half_is x1 x2 _ ix1 ix2).mono ?_; rintro e w7 ⟨rfl, hb⟩
  replace hT := Rot.Tab.below hT hb
  replace hXx := blk_call hXx hb
  replace hP := prow_below hP hb
  replace hU := prow_below hU hb
  replace hR := prow_below hR hb
  replace hV := prow_below hV hb
  replace hB := belT hB hb
  clear hb
  clear fhXx0 fhXx1 fhXxz
  rw [hy1, hy2]
  have hYP : PRow ((w7.alloc (.cells #[.int .i64 y1, .int .i64 y2] 25))) (some ⟨w7.heap.size, 0, none⟩) [(y1, y2)] := prow_new _ _ _ _ rfl rfl
  go_wp2_with fail
  refine (rot1_yes _ y1 y2 Y1 Y2 r _ (hT.alloc _) hYP iy1 iy2 hq HTY.out iY1 iY2).mono ?_; rintro e w8 ⟨⟨g4, c4, rfl, hZ⟩, hb⟩
  replace hT := Rot.Tab.below (Rot.Tab.alloc hT _) hb
  replace hXx := blk_call (blk_alloc hXx _) hb
  have hY := blk_call (blk_new w7 (.cells #[.int .i64 y1, .int .i64 y2] 25) (w7.heap.size) (by simp)) hb
  replace hP := prow_below (prow_alloc hP _) hb
  replace hU := prow_below (prow_alloc hU _) hb
  replace hR := prow_below (prow_alloc hR _) hb
  replace hV := prow_below (prow_alloc hV _) hb
  replace hB := belT (belA hB _) hb
  clear hb
  clear hYP hT
  clear hY
  go_wp2_with fail
  refine (valid_is _ _ c us true _ rfl HVU hule hU).mono ?_; rintro e w9 ⟨rfl, hb⟩
  replace hXx := blk_call hXx hb
  replace hP := prow_below hP hb
  replace hU := prow_below hU hb
  replace hR := prow_below hR hb
  replace hV := prow_below hV hb
  replace hZ := prow_below hZ hb
  replace hB := belT hB hb
  clear hb
  go_wp2_with fail
  refine (area_at _ _ c us A _ rfl HAU hu0 hu12 hU huv).mono ?_; rintro e w10 ⟨rfl, hb⟩
  replace hXx := blk_call hXx hb
  replace hP := prow_below hP hb
  replace hU := prow_below hU hb
  replace hR := prow_below hR hb
  replace hV := prow_below hV hb
  replace hZ := prow_below hZ hb
  replace hB := belT hB hb
  clear hb
  go_wp2_with fail
  refine (area_at _ _ cap ps A _ rfl HA h0 h12 hP hv).mono ?_; rintro e w11 ⟨rfl, hb⟩
  replace hXx := blk_call hXx hb
  replace hP := prow_below hP hb
  replace hU := prow_below hU hb
  replace hR := prow_below hR hb
  replace hV := prow_below hV hb
  replace hZ := prow_below hZ hb
  replace hB := belT hB hb
  clear hb
  go_wp2_with fail
  refine (equal_is _ _ _ _ c2 cap ps ps true _ rfl rfl (Lib.hid (decide_eq_true rfl)) hle hle hR hP).mono ?_; rintro e w12 ⟨rfl, hb⟩
  replace hXx := blk_call hXx hb
  replace hP := prow_below hP hb
  replace hU := prow_below hU hb
  replace hR := prow_below hR hb
  replace hV := prow_below hV hb
  replace hZ := prow_below hZ hb
  replace hB := belT hB hb
  clear hb
  go_wp2_with fail
  refine (equal_is _ _ _ _ c3 cap ps ps true _ rfl rfl (Lib.hid (decide_eq_true rfl)) hle hle hV hP).mono ?_; rintro e w13 ⟨rfl, hb⟩
  replace hXx := blk_call hXx hb
  replace hP := prow_below hP hb
  replace hU := prow_below hU hb
  replace hR := prow_below hR hb
  replace hV := prow_below hV hb
  replace hZ := prow_below hZ hb
  replace hB := belT hB hb
  clear hb
  clear hR
  clear hV
  have fhXx0 := blk_cell hXx 0 _ rfl
  have fhXx1 := blk_cell hXx 1 _ rfl
  have fhXxz := blk_lt hXx
  obtain ⟨z0, z1⟩ := prow_c hZ 0 (by simp) 0 1 rfl rfl
  have z0 : w13.cell? ⟨g4, 0, none⟩ = some (.int .i64 Y1) := z0
  have z1 : w13.cell? ⟨g4, 1, none⟩ = some (.int .i64 Y2) := z1
  have hPx := hP
  have hUx := hU
  have hBx := hB
  clear hU hP hB hZ hXx
  go_upto_region 12 with fail
  obtain ⟨sp, hsp⟩ : ∃ sp : Told, sp = [none, none, none, none, none, none, some (.inl (.bool true)), none, none, none, none, none, none, none, none, none, none, none, none, none, none, none, none, none, none, none, none, none, none, none, none, none, none, none, none, none, none, none, none, none, none, none, none, none, none, none, none, none, none, none, none, none, none, none, none, none, none, none, none, none, none, none, none, none, none, none, none, none, none, none, none, none, none, none, none, none, none, none, none, none, none, none, none, none, none, none, none, none, none, none, none, none, none, none, none, none, some (.inl (.bool true)), some (.inl (.bool true)), some (.inl (.bool true)), some (.inl (.bool false)), some (.inl (.bool false)), some (.inl (.slice (some ⟨g4, 0, none⟩) 1 c4)), some (.inl (.int .i64 1)), some (.inl (.bool false)), some (.inl (.bool false)), some (.inl (.bool false)), some (.inl (.slice (some ⟨g, 0, none⟩) us.length c)), some (.inl (.slice (some ⟨g4, 0, none⟩) 1 c4)), some (.inl (.pointer (some ⟨g4, 0, none⟩))), some (.inl (.agg #[.int .i64 Y1, .int .i64 Y2])), some (.inl (.int .i64 t)), some (.inl (.slice ao ps.length cap)), some (.inl (.agg #[.int .i64 x1, .int .i64 x2])), some (.inl (.agg #[.int .i64 y1, .int .i64 y2])), some (.inl (.int .i64 t)), some (.inl (.bool true)), some (.inl (.bool true)), some (.inl (.bool true))] := ⟨_, rfl⟩
  have s6 : sp.getD 6 none = some (.inl (.bool true)) := by rw [hsp]; rfl
  have s96 : sp.getD 96 none = some (.inl (.bool true)) := by rw [hsp]; rfl
  have s97 : sp.getD 97 none = some (.inl (.bool true)) := by rw [hsp]; rfl
  have s98 : sp.getD 98 none = some (.inl (.bool true)) := by rw [hsp]; rfl
  have s99 : sp.getD 99 none = some (.inl (.bool false)) := by rw [hsp]; rfl
  have s100 : sp.getD 100 none = some (.inl (.bool false)) := by rw [hsp]; rfl
  have s101 : sp.getD 101 none = some (.inl (.slice (some ⟨g4, 0, none⟩) 1 c4)) := by rw [hsp]; rfl
  have s102 : sp.getD 102 none = some (.inl (.int .i64 1)) := by rw [hsp]; rfl
  have s103 : sp.getD 103 none = some (.inl (.bool false)) := by rw [hsp]; rfl
  have s104 : sp.getD 104 none = some (.inl (.bool false)) := by rw [hsp]; rfl
  have s105 : sp.getD 105 none = some (.inl (.bool false)) := by rw [hsp]; rfl
  have s106 : sp.getD 106 none = some (.inl (.slice (some ⟨g, 0, none⟩) us.length c)) := by rw [hsp]; rfl
  have s107 : sp.getD 107 none = some (.inl (.slice (some ⟨g4, 0, none⟩) 1 c4)) := by rw [hsp]; rfl
  have s108 : sp.getD 108 none = some (.inl (.pointer (some ⟨g4, 0, none⟩))) := by rw [hsp]; rfl
  have s109 : sp.getD 109 none = some (.inl (.agg #[.int .i64 Y1, .int .i64 Y2])) := by rw [hsp]; rfl
  have s110 : sp.getD 110 none = some (.inl (.int .i64 t)) := by rw [hsp]; rfl
  have s111 : sp.getD 111 none = some (.inl (.slice ao ps.length cap)) := by rw [hsp]; rfl
  have s112 : sp.getD 112 none = some (.inl (.agg #[.int .i64 x1, .int .i64 x2])) := by rw [hsp]; rfl
  have s113 : sp.getD 113 none = some (.inl (.agg #[.int .i64 y1, .int .i64 y2])) := by rw [hsp]; rfl
  have s114 : sp.getD 114 none = some (.inl (.int .i64 t)) := by rw [hsp]; rfl
  have s115 : sp.getD 115 none = some (.inl (.bool true)) := by rw [hsp]; rfl
  have s116 : sp.getD 116 none = some (.inl (.bool true)) := by rw [hsp]; rfl
  have s117 : sp.getD 117 none = some (.inl (.bool true)) := by rw [hsp]; rfl
  clear hsp
  refine region_obs sp (by kernel_rfl) (by kernel_rfl) ?_ ?_
  · rw [List.toList_toArray]
    refine obs_cons ?_ ?_
    · intro T wx K hB hF hD hK
      have g7 : T[7]? = some (.bool true) := hF 7 (free_of (by kernel_rfl))
      refine ob_yes (wanted_none rfl) ?_
      clear hF hD
      go_simp
      exact hK _ _ (Below.refl _ _) (rt_eq s96)
    refine obs_cons ?_ ?_
    · intro T wx K hB hF hD hK
      have g96 := get_eq (hD 0 96 (by simp [Region.binds]) (by kernel_rfl)) s96
      refine ob_yes (wanted_none rfl) ?_
      clear hF hD
      go_simp
      exact hK _ _ (Below.refl _ _) (rt_eq s97)
    refine obs_cons ?_ ?_
    · intro T wx K hB hF hD hK
      have g97 := get_eq (hD 1 97 (by simp [Region.binds]) (by kernel_rfl)) s97
      have g15 : T[15]? = some (.bool true) := hF 15 (free_of (by kernel_rfl))
      refine ob_yes (wanted_yes rfl (by kernel_rfl) g97) ?_
      clear hF hD
      go_simp
      exact hK _ _ (Below.refl _ _) (rt_eq s98)
    refine obs_cons ?_ ?_
    · intro T wx K hB hF hD hK
      have g97 := get_eq (hD 1 97 (by simp [Region.binds]) (by kernel_rfl)) s97
      have g98 := get_eq (hD 2 98 (by simp [Region.binds]) (by kernel_rfl)) s98
      refine ob_yes (wanted_yes rfl (by kernel_rfl) g97) ?_
      clear hF hD
      go_simp
      exact hK _ _ (Below.refl _ _) (rt_eq s99)
    refine obs_cons ?_ ?_
    · intro T wx K hB hF hD hK
      have g97 := get_eq (hD 1 97 (by simp [Region.binds]) (by kernel_rfl)) s97
      have g99 := get_eq (hD 3 99 (by simp [Region.binds]) (by kernel_rfl)) s99
      refine ob_yes (wanted_yes rfl (by kernel_rfl) g97) ?_
      clear hF hD
      go_simp
      exact hK _ _ (Below.refl _ _) (rt_eq s100)
    refine obs_cons ?_ ?_
    · intro T wx K hB hF hD hK
      have g100 := get_eq (hD 4 100 (by simp [Region.binds]) (by kernel_rfl)) s100
      have g14 : T[14]? = some (.slice (some ⟨g4, 0, none⟩) 1 c4) := hF 14 (free_of (by kernel_rfl))
      refine ob_yes (wanted_yes rfl (by kernel_rfl) g100) ?_
      clear hF hD
      go_simp
      exact hK _ _ (Below.refl _ _) (rt_eq s101)
    refine obs_cons ?_ ?_
    · intro T wx K hB hF hD hK
      have g100 := get_eq (hD 4 100 (by simp [Region.binds]) (by kernel_rfl)) s100
      have g101 := get_eq (hD 5 101 (by simp [Region.binds]) (by kernel_rfl)) s101
      refine ob_yes (wanted_yes rfl (by kernel_rfl) g100) ?_
      clear hF hD
      go_simp
      exact hK _ _ (Below.refl _ _) (rt_eq s102)
    refine obs_cons ?_ ?_
    · intro T wx K hB hF hD hK
      have g100 := get_eq (hD 4 100 (by simp [Region.binds]) (by kernel_rfl)) s100
      have g102 := get_eq (hD 6 102 (by simp [Region.binds]) (by kernel_rfl)) s102
      refine ob_yes (wanted_yes rfl (by kernel_rfl) g100) ?_
      clear hF hD
      go_simp
      exact hK _ _ (Below.refl _ _) (rt_eq s103)
    refine obs_cons ?_ ?_
    · intro T wx K hB hF hD hK
      have g97 := get_eq (hD 1 97 (by simp [Region.binds]) (by kernel_rfl)) s97
      have g100 := get_eq (hD 4 100 (by simp [Region.binds]) (by kernel_rfl)) s100
      have g103 := get_eq (hD 7 103 (by simp [Region.binds]) (by kernel_rfl)) s103
      refine ob_yes (wanted_yes rfl (by kernel_rfl) g97) ?_
      clear hF hD
      go_simp
      exact hK _ _ (Below.refl _ _) (rt_eq s104)
    refine obs_cons ?_ ?_
    · intro T wx K hB hF hD hK
      have g97 := get_eq (hD 1 97 (by simp [Region.binds]) (by kernel_rfl)) s97
      have g104 := get_eq (hD 8 104 (by simp [Region.binds]) (by kernel_rfl)) s104
      refine ob_yes (wanted_yes rfl (by kernel_rfl) g97) ?_
      clear hF hD
      go_simp
      exact hK _ _ (Below.refl _ _) (rt_eq s105)
    refine obs_cons ?_ ?_
    · intro T wx K hB hF hD hK
      have g105 := get_eq (hD 9 105 (by simp [Region.binds]) (by kernel_rfl)) s105
      have g8 : T[8]? = some (.slice (some ⟨g, 0, none⟩) us.length c) := hF 8 (free_of (by kernel_rfl))
      refine ob_yes (wanted_yes rfl (by kernel_rfl) g105) ?_
      clear hF hD
      go_simp
      exact hK _ _ (Below.refl _ _) (rt_eq s106)
    refine obs_cons ?_ ?_
    · intro T wx K hB hF hD hK
      have g105 := get_eq (hD 9 105 (by simp [Region.binds]) (by kernel_rfl)) s105
      have g14 : T[14]? = some (.slice (some ⟨g4, 0, none⟩) 1 c4) := hF 14 (free_of (by kernel_rfl))
      refine ob_yes (wanted_yes rfl (by kernel_rfl) g105) ?_
      clear hF hD
      go_simp
      exact hK _ _ (Below.refl _ _) (rt_eq s107)
    refine obs_cons ?_ ?_
    · intro T wx K hB hF hD hK
      have g105 := get_eq (hD 9 105 (by simp [Region.binds]) (by kernel_rfl)) s105
      have g107 := get_eq (hD 11 107 (by simp [Region.binds]) (by kernel_rfl)) s107
      refine ob_yes (wanted_yes rfl (by kernel_rfl) g105) ?_
      clear hF hD
      go_simp
      exact hK _ _ (Below.refl _ _) (rt_eq s108)
    refine obs_cons ?_ ?_
    · intro T wx K hB hF hD hK
      have g105 := get_eq (hD 9 105 (by simp [Region.binds]) (by kernel_rfl)) s105
      have g108 := get_eq (hD 12 108 (by simp [Region.binds]) (by kernel_rfl)) s108
      refine ob_yes (wanted_yes rfl (by kernel_rfl) g105) ?_
      clear hF hD
      have c0 := cell_call z0 hB
      have c1 := cell_call z1 hB
      go_simp
      exact hK _ _ (Below.refl _ _) (rt_eq s109)
    refine obs_cons ?_ ?_
    · intro T wx K hB hF hD hK
      have g105 := get_eq (hD 9 105 (by simp [Region.binds]) (by kernel_rfl)) s105
      have g106 := get_eq (hD 10 106 (by simp [Region.binds]) (by kernel_rfl)) s106
      have g109 := get_eq (hD 13 109 (by simp [Region.binds]) (by kernel_rfl)) s109
      refine ob_yes (wanted_yes rfl (by kernel_rfl) g105) ?_
      clear hF hD
      go_simp
      refine (locate_at (some ⟨g, 0, none⟩) us.length c us Y1 Y2 t _ rfl HL1 hu0 hu12 (prow_below hUx hB) hur iY1 iY2).mono ?_; rintro e w9 ⟨rfl, hb⟩
      exact hK _ _ hb (rt_eq s110)
    refine obs_cons ?_ ?_
    · intro T wx K hB hF hD hK
      have g105 := get_eq (hD 9 105 (by simp [Region.binds]) (by kernel_rfl)) s105
      have g0 : T[0]? = some (.slice ao ps.length cap) := hF 0 (free_of (by kernel_rfl))
      refine ob_yes (wanted_yes rfl (by kernel_rfl) g105) ?_
      clear hF hD
      go_simp
      exact hK _ _ (Below.refl _ _) (rt_eq s111)
    refine obs_cons ?_ ?_
    · intro T wx K hB hF hD hK
      have g105 := get_eq (hD 9 105 (by simp [Region.binds]) (by kernel_rfl)) s105
      have g5 : T[5]? = some (.pointer (some ⟨w.heap.size, 0, none⟩)) := hF 5 (free_of (by kernel_rfl))
      refine ob_yes (wanted_yes rfl (by kernel_rfl) g105) ?_
      clear hF hD
      have c0 := cell_call fhXx0 hB
      have c1 := cell_call fhXx1 hB
      go_simp
      exact hK _ _ (Below.refl _ _) (rt_eq s112)
    refine obs_cons ?_ ?_
    · intro T wx K hB hF hD hK
      have g105 := get_eq (hD 9 105 (by simp [Region.binds]) (by kernel_rfl)) s105
      have g112 := get_eq (hD 16 112 (by simp [Region.binds]) (by kernel_rfl)) s112
      refine ob_yes (wanted_yes rfl (by kernel_rfl) g105) ?_
      clear hF hD
      go_simp
      refine (half_to x1 x2 y1 y2 _ ix1 ix2 (Lib.hid hy1) (Lib.hid hy2)).mono ?_; rintro e w9 ⟨rfl, hb⟩
      exact hK _ _ hb (rt_eq s113)
    refine obs_cons ?_ ?_
    · intro T wx K hB hF hD hK
      have g105 := get_eq (hD 9 105 (by simp [Region.binds]) (by kernel_rfl)) s105
      have g111 := get_eq (hD 15 111 (by simp [Region.binds]) (by kernel_rfl)) s111
      have g113 := get_eq (hD 17 113 (by simp [Region.binds]) (by kernel_rfl)) s113
      refine ob_yes (wanted_yes rfl (by kernel_rfl) g105) ?_
      clear hF hD
      go_simp
      refine (locate_at ao ps.length cap ps y1 y2 t _ rfl HL2 h0 h12 (prow_below hPx hB) hvr iy1 iy2).mono ?_; rintro e w9 ⟨rfl, hb⟩
      exact hK _ _ hb (rt_eq s114)
    refine obs_cons ?_ ?_
    · intro T wx K hB hF hD hK
      have g105 := get_eq (hD 9 105 (by simp [Region.binds]) (by kernel_rfl)) s105
      have g110 := get_eq (hD 14 110 (by simp [Region.binds]) (by kernel_rfl)) s110
      have g114 := get_eq (hD 18 114 (by simp [Region.binds]) (by kernel_rfl)) s114
      refine ob_yes (wanted_yes rfl (by kernel_rfl) g105) ?_
      clear hF hD
      go_simp
      exact hK _ _ (Below.refl _ _) (rt_eq s115)
    refine obs_cons ?_ ?_
    · intro T wx K hB hF hD hK
      have g97 := get_eq (hD 1 97 (by simp [Region.binds]) (by kernel_rfl)) s97
      have g105 := get_eq (hD 9 105 (by simp [Region.binds]) (by kernel_rfl)) s105
      have g115 := get_eq (hD 19 115 (by simp [Region.binds]) (by kernel_rfl)) s115
      refine ob_yes (wanted_yes rfl (by kernel_rfl) g97) ?_
      clear hF hD
      go_simp
      exact hK _ _ (Below.refl _ _) (rt_eq s116)
    refine obs_cons ?_ ?_
    · intro T wx K hB hF hD hK
      have g97 := get_eq (hD 1 97 (by simp [Region.binds]) (by kernel_rfl)) s97
      have g116 := get_eq (hD 20 116 (by simp [Region.binds]) (by kernel_rfl)) s116
      refine ob_yes (wanted_none rfl) ?_
      clear hF hD
      go_simp
      exact hK _ _ (Below.refl _ _) (rt_eq s117)
    refine obs_cons ?_ ?_
    · intro T wx K hB hF hD hK
      have g117 := get_eq (hD 21 117 (by simp [Region.binds]) (by kernel_rfl)) s117
      refine ob_yes (wanted_none rfl) ?_
      clear hF hD
      go_simp
      exact hK _ _ (Below.refl _ _) (rt_eq s6)
    exact obs_nil
  · intro T w' hb hF hs hD
    have g6 := get_eq (hD 22 6 (by kernel_rfl)) s6
    have fin := Lib.hid (hBx.trans (hb.mono hBx.size))
    clear hF hD hs hb
    go_wp2_with fail
    refine bodyPost_ret (v := .bool true) (by simp [results, Tryd.results7, go_sem, g6]) rfl ?_
    exact ⟨rfl, fin.out⟩

set_option maxRecDepth 100000 in
set_option maxHeartbeats 16000000 in
theorem walk_still {w : World} (ao : Option Addr) (cap : Nat) (ps : List (Int × Int)) (hle : ps.length ≤ 9223372036854775807) (hP : PRow w ao ps) (a : Int) (x1 x2 : Int) (hT : Rot.Tab w) (HL : Hid (littleB ps = true)) (jx1 : InV x1) (jx2 : InV x2) (HG : Hid ((∀ i, i < ps.length → okT (a.tmod 36) (cx ps i) (cy ps i)) ∧ ¬ okT (a.tmod 36) (x1.tdiv 2) (x2.tdiv 2))) :
    Calls Tryd.prog 7 #[.slice ao ps.length cap, .int .i64 a, .agg #[.int .i64 x1, .int .i64 x2]] w fun e w' => e = .returned (.bool true) ∧ Below w.heap.size w w' := by
  have HM1 : Hid (mayB x1 x2 = true) := Lib.hid ((mayB_iff x1 x2).2 ⟨jx1, jx2⟩)
  obtain ⟨hva, hS⟩ := (littleB_iff ps).1 HL.out
  obtain ⟨h0, h12, hv⟩ : 0 < ps.length ∧ ps.length ≤ 12 ∧ AllV ps := by
    have hc := hva
    unfold validP at hc
    rw [Bool.and_eq_true] at hc
    obtain ⟨a, b, c⟩ := (validC_iff ps).1 hc.1
    exact ⟨by omega, b, c⟩
  have hvr := hv.allr2
  have ix1 := jx1.inr
  have ix2 := jx2.inr
  obtain ⟨r1, r2⟩ := tmod_bd a
  obtain ⟨r, htm⟩ : ∃ r, a.tmod 36 = r := ⟨_, rfl⟩
  rw [htm] at r1 r2 HG
  have hq : -9223372036854775808 ≤ r ∧ r ≤ 9223372036854775807 := by omega
  obtain ⟨us, hus⟩ : ∃ us, trL r ps = us := ⟨_, rfl⟩
  have hul : us.length = ps.length := by rw [← hus]; exact trL_len r ps
  have hub0 : ∀ i, i < ps.length → (-878800000 ≤ cx us i ∧ cx us i ≤ 878800000) ∧ -878800000 ≤ cy us i ∧ cy us i ≤ 878800000 := fun i hi => by
    rw [← hus, (trL_at r ps hi).1, (trL_at r ps hi).2]
    exact tr_bd (M := 439400000) (by omega) (hv i hi).1 (hv i hi).2
  have hub : Hid (∀ i, i < ps.length → (-1000000000000 ≤ cx us i ∧ cx us i ≤ 1000000000000) ∧ -1000000000000 ≤ cy us i ∧ cy us i ≤ 1000000000000) := Lib.hid (fun i hi => by have := hub0 i hi; omega)
  have hto : Hid (∀ i, i < ps.length → Turned r (cx ps i) (cy ps i) (cx us i) (cy us i)) := Lib.hid (fun i hi => by
    rw [← hus, (trL_at r ps hi).1, (trL_at r ps hi).2]
    exact okT_turned (HG.out.1 i hi))
  have hpb : Hid (∀ i, i < us.length → (-1000000000000 ≤ cx ps i ∧ cx ps i ≤ 1000000000000) ∧ -1000000000000 ≤ cy ps i ∧ cy ps i ≤ 1000000000000) := Lib.hid (fun i hi => by have := hv i (by omega); unfold InV at this; omega)
  obtain ⟨cc, hcc⟩ : ∃ c, (Rot.csF (r % 36).toNat).1 = c := ⟨_, rfl⟩
  obtain ⟨ss, hss⟩ : ∃ c, (Rot.csF (r % 36).toNat).2 = c := ⟨_, rfl⟩
  have hcs : cc * cc + ss * ss = 4225 := by rw [← hcc, ← hss]; exact csF_sq r
  obtain ⟨bc, bs⟩ := Rot.csF_bd (r % 36).toNat
  rw [hcc] at bc
  rw [hss] at bs
  have htn : ∀ i, i < ps.length → Tn cc ss (cx ps i) (cy ps i) (cx us i) (cy us i) := fun i hi => by rw [← hcc, ← hss]; exact hto.out i hi
  have hbk : ∀ q', (r + q') % 36 = 0 → ∀ i, i < us.length → Turned q' (cx us i) (cy us i) (cx ps i) (cy ps i) := fun q' h i hi => by
    obtain ⟨e1, e2⟩ := csF_neg r q' h
    have := tn_back hcs (htn i (by omega))
    unfold Turned
    rw [e1, e2, hcc, hss]
    exact this
  have hbk1 := Lib.hid (hbk (-r) (by omega))
  have hbk2 := Lib.hid (hbk (36 - r) (by omega))
  have hq2 : -9223372036854775808 ≤ -r ∧ -r ≤ 9223372036854775807 := by omega
  have hq3 : -9223372036854775808 ≤ 36 - r ∧ 36 - r ≤ 9223372036854775807 := by omega
  obtain ⟨p5, p6⟩ := tdiv2_h (x := x1) (M := 219700000) (by have := jx1.1; omega) (by have := jx1.2; omega)
  obtain ⟨p7, p8⟩ := tdiv2_h (x := x2) (M := 219700000) (by have := jx2.1; omega) (by have := jx2.2; omega)
  obtain ⟨y1, hy1⟩ : ∃ m, x1.tdiv 2 = m := ⟨_, rfl⟩
  obtain ⟨y2, hy2⟩ : ∃ m, x2.tdiv 2 = m := ⟨_, rfl⟩
  rw [hy1] at p5 p6
  rw [hy2] at p7 p8
  rw [hy1, hy2] at HG
  have iy1 : InR y1 := by unfold InR; omega
  have iy2 : InR y2 := by unfold InR; omega
  obtain ⟨A, hA⟩ : ∃ A, area2 ps = A := ⟨_, rfl⟩
  obtain ⟨t, ht⟩ : ∃ t, locE ps y1 y2 = t := ⟨_, rfl⟩
  have hu0 : 0 < us.length := by omega
  have hu12 : us.length ≤ 12 := by omega
  have hule : us.length ≤ 9223372036854775807 := by omega
  have HVU : Hid (validP us = true) := Lib.hid (tnL_valid hcs bc bs hS hul htn hva)
  have huv : AllV us := by
    have hc := HVU.out
    unfold validP at hc
    rw [Bool.and_eq_true] at hc
    exact ((validC_iff us).1 hc.1).2.2
  have hur := huv.allr2
  have HA : Hid (area2 ps = A) := Lib.hid hA
  have HAU : Hid (area2 us = A) := Lib.hid (by rw [tnL_area hcs hul htn]; exact hA)
  have HL2 : Hid (locE ps y1 y2 = t) := Lib.hid ht
  have HTY := Lib.hid HG.out.2
  have HUL := Lib.hid hul
  clear hub0 hus HG hva hS jx1 jx2 hA ht htn hbk hcs hcc hss bc bs p5 p6 p7 p8 hul
  have hB : Below w.heap.size w w := Below.refl _ _
  go_enter Tryd.func7, Tryd.ntmps7
  go_wp2_with fail
  refine (head_any _ (hT.alloc _)).mono ?_; rintro e w1 ⟨rfl, hb⟩
  replace hT := Rot.Tab.below (Rot.Tab.alloc hT _) hb
  have hXx := blk_call (blk_new w (.cells #[.int .i64 x1, .int .i64 x2] 25) (w.heap.size) (by simp)) hb
  replace hP := prow_below (prow_alloc hP _) hb
  replace hB := belT (belA hB _) hb
  clear hb
  go_wp2_with fail
  refine (little_is _ _ cap ps true _ rfl HL hle hP).mono ?_; rintro e w2 ⟨rfl, hb⟩
  replace hT := Rot.Tab.below hT hb
  replace hXx := blk_call hXx hb
  replace hP := prow_below hP hb
  replace hB := belT hB hb
  clear hb
  have fhXx0 := blk_cell hXx 0 _ rfl
  have fhXx1 := blk_cell hXx 1 _ rfl
  have fhXxz := blk_lt hXx
  go_wp2_with fail
  refine (may_any x1 x2 true _ HM1).mono ?_; rintro e w3 ⟨rfl, hb⟩
  replace hT := Rot.Tab.below hT hb
  replace hXx := blk_call hXx hb
  replace hP := prow_below hP hb
  replace hB := belT hB hb
  clear hb
  clear fhXx0 fhXx1 fhXxz
  go_wp2_with fail
  refine (rotate_yes _ _ cap ps us r _ hT h0 rfl HUL.out (by omega) hP hvr hq hto.out hub.out).mono ?_; rintro e w4 ⟨⟨g, c, rfl, hU⟩, hb⟩
  replace hT := Rot.Tab.below hT hb
  replace hXx := blk_call hXx hb
  replace hP := prow_below hP hb
  replace hB := belT hB hb
  clear hb
  go_wp2_with fail
  refine (rotate_yes _ _ c us ps (-r) _ hT hu0 rfl HUL.out.symm (by omega) hU hur hq2 hbk1.out hpb.out).mono ?_; rintro e w5 ⟨⟨g2, c2, rfl, hR⟩, hb⟩
  replace hT := Rot.Tab.below hT hb
  replace hXx := blk_call hXx hb
  replace hP := prow_below hP hb
  replace hU := prow_below hU hb
  replace hB := belT hB hb
  clear hb
  go_wp2_with fail
  refine (rotate_yes _ _ c us ps (36 - r) _ hT hu0 rfl HUL.out.symm (by omega) hU hur hq3 hbk2.out hpb.out).mono ?_; rintro e w6 ⟨⟨g3, c3, rfl, hV⟩, hb⟩
  replace hT := Rot.Tab.below hT hb
  replace hXx := blk_call hXx hb
  replace hP := prow_below hP hb
  replace hU := prow_below hU hb
  replace hR := prow_below hR hb
  replace hB := belT hB hb
  clear hb
  have fhXx0 := blk_cell hXx 0 _ rfl
  have fhXx1 := blk_cell hXx 1 _ rfl
  have fhXxz := blk_lt hXx
  go_wp2_with fail
  refine (half_is x1 x2 _ ix1 ix2).mono ?_; rintro e w7 ⟨rfl, hb⟩
  replace hT := Rot.Tab.below hT hb
  replace hXx := blk_call hXx hb
  replace hP := prow_below hP hb
  replace hU := prow_below hU hb
  replace hR := prow_below hR hb
  replace hV := prow_below hV hb
  replace hB := belT hB hb
  clear hb
  clear fhXx0 fhXx1 fhXxz
  rw [hy1, hy2]
  have hYP : PRow ((w7.alloc (.cells #[.int .i64 y1, .int .i64 y2] 25))) (some ⟨w7.heap.size, 0, none⟩) [(y1, y2)] := prow_new _ _ _ _ rfl rfl
  go_wp2_with fail
  refine (rot1_no _ y1 y2 r _ (hT.alloc _) hYP iy1 iy2 hq HTY.out).mono ?_; rintro e w8 ⟨rfl, hb⟩
  replace hT := Rot.Tab.below (Rot.Tab.alloc hT _) hb
  replace hXx := blk_call (blk_alloc hXx _) hb
  have hY := blk_call (blk_new w7 (.cells #[.int .i64 y1, .int .i64 y2] 25) (w7.heap.size) (by simp)) hb
  replace hP := prow_below (prow_alloc hP _) hb
  replace hU := prow_below (prow_alloc hU _) hb
  replace hR := prow_below (prow_alloc hR _) hb
  replace hV := prow_below (prow_alloc hV _) hb
  replace hB := belT (belA hB _) hb
  clear hb
  clear hYP hT
  clear hY
  go_wp2_with fail
  refine (valid_is _ _ c us true _ rfl HVU hule hU).mono ?_; rintro e w9 ⟨rfl, hb⟩
  replace hXx := blk_call hXx hb
  replace hP := prow_below hP hb
  replace hU := prow_below hU hb
  replace hR := prow_below hR hb
  replace hV := prow_below hV hb
  replace hB := belT hB hb
  clear hb
  go_wp2_with fail
  refine (area_at _ _ c us A _ rfl HAU hu0 hu12 hU huv).mono ?_; rintro e w10 ⟨rfl, hb⟩
  replace hXx := blk_call hXx hb
  replace hP := prow_below hP hb
  replace hU := prow_below hU hb
  replace hR := prow_below hR hb
  replace hV := prow_below hV hb
  replace hB := belT hB hb
  clear hb
  go_wp2_with fail
  refine (area_at _ _ cap ps A _ rfl HA h0 h12 hP hv).mono ?_; rintro e w11 ⟨rfl, hb⟩
  replace hXx := blk_call hXx hb
  replace hP := prow_below hP hb
  replace hU := prow_below hU hb
  replace hR := prow_below hR hb
  replace hV := prow_below hV hb
  replace hB := belT hB hb
  clear hb
  go_wp2_with fail
  refine (equal_is _ _ _ _ c2 cap ps ps true _ rfl rfl (Lib.hid (decide_eq_true rfl)) hle hle hR hP).mono ?_; rintro e w12 ⟨rfl, hb⟩
  replace hXx := blk_call hXx hb
  replace hP := prow_below hP hb
  replace hU := prow_below hU hb
  replace hR := prow_below hR hb
  replace hV := prow_below hV hb
  replace hB := belT hB hb
  clear hb
  go_wp2_with fail
  refine (equal_is _ _ _ _ c3 cap ps ps true _ rfl rfl (Lib.hid (decide_eq_true rfl)) hle hle hV hP).mono ?_; rintro e w13 ⟨rfl, hb⟩
  replace hXx := blk_call hXx hb
  replace hP := prow_below hP hb
  replace hU := prow_below hU hb
  replace hR := prow_below hR hb
  replace hV := prow_below hV hb
  replace hB := belT hB hb
  clear hb
  clear hR
  clear hV
  have fhXx0 := blk_cell hXx 0 _ rfl
  have fhXx1 := blk_cell hXx 1 _ rfl
  have fhXxz := blk_lt hXx
  have hPx := hP
  have hUx := hU
  have hBx := hB
  clear hU hP hB hXx
  go_upto_region 12 with fail
  obtain ⟨sp, hsp⟩ : ∃ sp : Told, sp = [none, none, none, none, none, none, some (.inl (.bool true)), none, none, none, none, none, none, none, none, none, none, none, none, none, none, none, none, none, none, none, none, none, none, none, none, none, none, none, none, none, none, none, none, none, none, none, none, none, none, none, none, none, none, none, none, none, none, none, none, none, none, none, none, none, none, none, none, none, none, none, none, none, none, none, none, none, none, none, none, none, none, none, none, none, none, none, none, none, none, none, none, none, none, none, none, none, none, none, none, none, some (.inl (.bool true)), some (.inl (.bool true)), some (.inl (.bool false)), some (.inl (.bool true)), some (.inl (.bool true)), none, none, none, some (.inl (.bool true)), some (.inl (.bool true)), none, none, none, none, none, none, none, none, none, none, some (.inl (.bool true)), some (.inl (.bool true))] := ⟨_, rfl⟩
  have s6 : sp.getD 6 none = some (.inl (.bool true)) := by rw [hsp]; rfl
  have s96 : sp.getD 96 none = some (.inl (.bool true)) := by rw [hsp]; rfl
  have s97 : sp.getD 97 none = some (.inl (.bool true)) := by rw [hsp]; rfl
  have s98 : sp.getD 98 none = some (.inl (.bool false)) := by rw [hsp]; rfl
  have s99 : sp.getD 99 none = some (.inl (.bool true)) := by rw [hsp]; rfl
  have s100 : sp.getD 100 none = some (.inl (.bool true)) := by rw [hsp]; rfl
  have s101 : sp.getD 101 none = none := by rw [hsp]; rfl
  have s102 : sp.getD 102 none = none := by rw [hsp]; rfl
  have s103 : sp.getD 103 none = none := by rw [hsp]; rfl
  have s104 : sp.getD 104 none = some (.inl (.bool true)) := by rw [hsp]; rfl
  have s105 : sp.getD 105 none = some (.inl (.bool true)) := by rw [hsp]; rfl
  have s106 : sp.getD 106 none = none := by rw [hsp]; rfl
  have s107 : sp.getD 107 none = none := by rw [hsp]; rfl
  have s108 : sp.getD 108 none = none := by rw [hsp]; rfl
  have s109 : sp.getD 109 none = none := by rw [hsp]; rfl
  have s110 : sp.getD 110 none = none := by rw [hsp]; rfl
  have s111 : sp.getD 111 none = none := by rw [hsp]; rfl
  have s112 : sp.getD 112 none = none := by rw [hsp]; rfl
  have s113 : sp.getD 113 none = none := by rw [hsp]; rfl
  have s114 : sp.getD 114 none = none := by rw [hsp]; rfl
  have s115 : sp.getD 115 none = none := by rw [hsp]; rfl
  have s116 : sp.getD 116 none = some (.inl (.bool true)) := by rw [hsp]; rfl
  have s117 : sp.getD 117 none = some (.inl (.bool true)) := by rw [hsp]; rfl
  clear hsp
  refine region_obs sp (by kernel_rfl) (by kernel_rfl) ?_ ?_
  · rw [List.toList_toArray]
    refine obs_cons ?_ ?_
    · intro T wx K hB hF hD hK
      have g7 : T[7]? = some (.bool true) := hF 7 (free_of (by kernel_rfl))
      refine ob_yes (wanted_none rfl) ?_
      clear hF hD
      go_simp
      exact hK _ _ (Below.refl _ _) (rt_eq s96)
    refine obs_cons ?_ ?_
    · intro T wx K hB hF hD hK
      have g96 := get_eq (hD 0 96 (by simp [Region.binds]) (by kernel_rfl)) s96
      refine ob_yes (wanted_none rfl) ?_
      clear hF hD
      go_simp
      exact hK _ _ (Below.refl _ _) (rt_eq s97)
    refine obs_cons ?_ ?_
    · intro T wx K hB hF hD hK
      have g97 := get_eq (hD 1 97 (by simp [Region.binds]) (by kernel_rfl)) s97
      have g15 : T[15]? = some (.bool false) := hF 15 (free_of (by kernel_rfl))
      refine ob_yes (wanted_yes rfl (by kernel_rfl) g97) ?_
      clear hF hD
      go_simp
      exact hK _ _ (Below.refl _ _) (rt_eq s98)
    refine obs_cons ?_ ?_
    · intro T wx K hB hF hD hK
      have g97 := get_eq (hD 1 97 (by simp [Region.binds]) (by kernel_rfl)) s97
      have g98 := get_eq (hD 2 98 (by simp [Region.binds]) (by kernel_rfl)) s98
      refine ob_yes (wanted_yes rfl (by kernel_rfl) g97) ?_
      clear hF hD
      go_simp
      exact hK _ _ (Below.refl _ _) (rt_eq s99)
    refine obs_cons ?_ ?_
    · intro T wx K hB hF hD hK
      have g97 := get_eq (hD 1 97 (by simp [Region.binds]) (by kernel_rfl)) s97
      have g99 := get_eq (hD 3 99 (by simp [Region.binds]) (by kernel_rfl)) s99
      refine ob_yes (wanted_yes rfl (by kernel_rfl) g97) ?_
      clear hF hD
      go_simp
      exact hK _ _ (Below.refl _ _) (rt_eq s100)
    refine obs_cons ?_ ?_
    · intro T wx K hB hF hD hK
      have g100 := get_eq (hD 4 100 (by simp [Region.binds]) (by kernel_rfl)) s100
      refine ob_no (wanted_no rfl (by kernel_rfl) g100 rfl) ?_
      exact hK _ _ (Below.refl _ _) (rt_any s101)
    refine obs_cons ?_ ?_
    · intro T wx K hB hF hD hK
      have g100 := get_eq (hD 4 100 (by simp [Region.binds]) (by kernel_rfl)) s100
      refine ob_no (wanted_no rfl (by kernel_rfl) g100 rfl) ?_
      exact hK _ _ (Below.refl _ _) (rt_any s102)
    refine obs_cons ?_ ?_
    · intro T wx K hB hF hD hK
      have g100 := get_eq (hD 4 100 (by simp [Region.binds]) (by kernel_rfl)) s100
      refine ob_no (wanted_no rfl (by kernel_rfl) g100 rfl) ?_
      exact hK _ _ (Below.refl _ _) (rt_any s103)
    refine obs_cons ?_ ?_
    · intro T wx K hB hF hD hK
      have g97 := get_eq (hD 1 97 (by simp [Region.binds]) (by kernel_rfl)) s97
      have g100 := get_eq (hD 4 100 (by simp [Region.binds]) (by kernel_rfl)) s100
      refine ob_yes (wanted_yes rfl (by kernel_rfl) g97) ?_
      clear hF hD
      go_simp
      exact hK _ _ (Below.refl _ _) (rt_eq s104)
    refine obs_cons ?_ ?_
    · intro T wx K hB hF hD hK
      have g97 := get_eq (hD 1 97 (by simp [Region.binds]) (by kernel_rfl)) s97
      have g104 := get_eq (hD 8 104 (by simp [Region.binds]) (by kernel_rfl)) s104
      refine ob_yes (wanted_yes rfl (by kernel_rfl) g97) ?_
      clear hF hD
      go_simp
      exact hK _ _ (Below.refl _ _) (rt_eq s105)
    refine obs_cons ?_ ?_
    · intro T wx K hB hF hD hK
      have g105 := get_eq (hD 9 105 (by simp [Region.binds]) (by kernel_rfl)) s105
      refine ob_no (wanted_no rfl (by kernel_rfl) g105 rfl) ?_
      exact hK _ _ (Below.refl _ _) (rt_any s106)
    refine obs_cons ?_ ?_
    · intro T wx K hB hF hD hK
      have g105 := get_eq (hD 9 105 (by simp [Region.binds]) (by kernel_rfl)) s105
      refine ob_no (wanted_no rfl (by kernel_rfl) g105 rfl) ?_
      exact hK _ _ (Below.refl _ _) (rt_any s107)
    refine obs_cons ?_ ?_
    · intro T wx K hB hF hD hK
      have g105 := get_eq (hD 9 105 (by simp [Region.binds]) (by kernel_rfl)) s105
      refine ob_no (wanted_no rfl (by kernel_rfl) g105 rfl) ?_
      exact hK _ _ (Below.refl _ _) (rt_any s108)
    refine obs_cons ?_ ?_
    · intro T wx K hB hF hD hK
      have g105 := get_eq (hD 9 105 (by simp [Region.binds]) (by kernel_rfl)) s105
      refine ob_no (wanted_no rfl (by kernel_rfl) g105 rfl) ?_
      exact hK _ _ (Below.refl _ _) (rt_any s109)
    refine obs_cons ?_ ?_
    · intro T wx K hB hF hD hK
      have g105 := get_eq (hD 9 105 (by simp [Region.binds]) (by kernel_rfl)) s105
      refine ob_no (wanted_no rfl (by kernel_rfl) g105 rfl) ?_
      exact hK _ _ (Below.refl _ _) (rt_any s110)
    refine obs_cons ?_ ?_
    · intro T wx K hB hF hD hK
      have g105 := get_eq (hD 9 105 (by simp [Region.binds]) (by kernel_rfl)) s105
      refine ob_no (wanted_no rfl (by kernel_rfl) g105 rfl) ?_
      exact hK _ _ (Below.refl _ _) (rt_any s111)
    refine obs_cons ?_ ?_
    · intro T wx K hB hF hD hK
      have g105 := get_eq (hD 9 105 (by simp [Region.binds]) (by kernel_rfl)) s105
      refine ob_no (wanted_no rfl (by kernel_rfl) g105 rfl) ?_
      exact hK _ _ (Below.refl _ _) (rt_any s112)
    refine obs_cons ?_ ?_
    · intro T wx K hB hF hD hK
      have g105 := get_eq (hD 9 105 (by simp [Region.binds]) (by kernel_rfl)) s105
      refine ob_no (wanted_no rfl (by kernel_rfl) g105 rfl) ?_
      exact hK _ _ (Below.refl _ _) (rt_any s113)
    refine obs_cons ?_ ?_
    · intro T wx K hB hF hD hK
      have g105 := get_eq (hD 9 105 (by simp [Region.binds]) (by kernel_rfl)) s105
      refine ob_no (wanted_no rfl (by kernel_rfl) g105 rfl) ?_
      exact hK _ _ (Below.refl _ _) (rt_any s114)
    refine obs_cons ?_ ?_
    · intro T wx K hB hF hD hK
      have g105 := get_eq (hD 9 105 (by simp [Region.binds]) (by kernel_rfl)) s105
      refine ob_no (wanted_no rfl (by kernel_rfl) g105 rfl) ?_
      exact hK _ _ (Below.refl _ _) (rt_any s115)
    refine obs_cons ?_ ?_
    · intro T wx K hB hF hD hK
      have g97 := get_eq (hD 1 97 (by simp [Region.binds]) (by kernel_rfl)) s97
      have g105 := get_eq (hD 9 105 (by simp [Region.binds]) (by kernel_rfl)) s105
      refine ob_yes (wanted_yes rfl (by kernel_rfl) g97) ?_
      clear hF hD
      go_simp
      exact hK _ _ (Below.refl _ _) (rt_eq s116)
    refine obs_cons ?_ ?_
    · intro T wx K hB hF hD hK
      have g97 := get_eq (hD 1 97 (by simp [Region.binds]) (by kernel_rfl)) s97
      have g116 := get_eq (hD 20 116 (by simp [Region.binds]) (by kernel_rfl)) s116
      refine ob_yes (wanted_none rfl) ?_
      clear hF hD
      go_simp
      exact hK _ _ (Below.refl _ _) (rt_eq s117)
    refine obs_cons ?_ ?_
    · intro T wx K hB hF hD hK
      have g117 := get_eq (hD 21 117 (by simp [Region.binds]) (by kernel_rfl)) s117
      refine ob_yes (wanted_none rfl) ?_
      clear hF hD
      go_simp
      exact hK _ _ (Below.refl _ _) (rt_eq s6)
    exact obs_nil
  · intro T w' hb hF hs hD
    have g6 := get_eq (hD 22 6 (by kernel_rfl)) s6
    have fin := Lib.hid (hBx.trans (hb.mono hBx.size))
    clear hF hD hs hb
    go_wp2_with fail
    refine bodyPost_ret (v := .bool true) (by simp [results, Tryd.results7, go_sem, g6]) rfl ?_
    exact ⟨rfl, fin.out⟩

set_option maxRecDepth 100000 in
set_option maxHeartbeats 4000000 in
theorem walk {w : World} (ao : Option Addr) (cap : Nat) (ps : List (Int × Int)) (hle : ps.length ≤ 9223372036854775807) (hP : PRow w ao ps) (a : Int) (ha : (Lit.int .i64 a).wf = true) (x1 x2 : Int) (hT : Rot.Tab w) :
    Calls Tryd.prog 7 #[.slice ao ps.length cap, .int .i64 a, .agg #[.int .i64 x1, .int .i64 x2]] w fun e w' => e = .returned (.bool true) ∧ Below w.heap.size w w' := by
  clear ha
  by_cases hl : littleB ps = true
  · have HL := Lib.hid hl
    by_cases hm1 : mayB x1 x2 = true
    · obtain ⟨k1, k2⟩ := (mayB_iff x1 x2).1 hm1
      rcases first_bad (a.tmod 36) ps ps.length (Nat.le_refl _) with h | ⟨m, h1, h2⟩
      · by_cases g : okT (a.tmod 36) (x1.tdiv 2) (x2.tdiv 2)
        · exact walk_turned ao cap ps hle hP a x1 x2 hT HL k1 k2 (Lib.hid ⟨h, g⟩)
        · exact walk_still ao cap ps hle hP a x1 x2 hT HL k1 k2 (Lib.hid ⟨h, g⟩)
      · exact walk_no ao cap ps hle hP a x1 x2 hT HL k1 k2 m h1 (Lib.hid h2)
    · have HM1 : Hid (mayB x1 x2 = false) := Lib.hid (by simpa using hm1)
      clear hm1 hl
      have hB : Below w.heap.size w w := Below.refl _ _
      go_enter Tryd.func7, Tryd.ntmps7
      go_wp2_with fail
      refine (head_any _ (hT.alloc _)).mono ?_; rintro e w1 ⟨rfl, hb⟩
      replace hT := Rot.Tab.below (Rot.Tab.alloc hT _) hb
      have hXx := blk_call (blk_new w (.cells #[.int .i64 x1, .int .i64 x2] 25) (w.heap.size) (by simp)) hb
      replace hP := prow_below (prow_alloc hP _) hb
      replace hB := belT (belA hB _) hb
      clear hb
      go_wp2_with fail
      refine (little_is _ _ cap ps true _ rfl HL hle hP).mono ?_; rintro e w2 ⟨rfl, hb⟩
      replace hT := Rot.Tab.below hT hb
      replace hXx := blk_call hXx hb
      replace hP := prow_below hP hb
      replace hB := belT hB hb
      clear hb
      have fhXx0 := blk_cell hXx 0 _ rfl
      have fhXx1 := blk_cell hXx 1 _ rfl
      have fhXxz := blk_lt hXx
      go_wp2_with fail
      refine (may_any x1 x2 false _ HM1).mono ?_; rintro e w3 ⟨rfl, hb⟩
      replace hT := Rot.Tab.below hT hb
      replace hXx := blk_call hXx hb
      replace hP := prow_below hP hb
      replace hB := belT hB hb
      clear hb
      clear fhXx0 fhXx1 fhXxz
      go_wp2_with fail
      go_ret
      exact ⟨rfl, hB⟩
  · have HL : Hid (littleB ps = false) := Lib.hid (by simpa using hl)
    clear hl
    have hB : Below w.heap.size w w := Below.refl _ _
    go_enter Tryd.func7, Tryd.ntmps7
    go_wp2_with fail
    refine (head_any _ (hT.alloc _)).mono ?_; rintro e w1 ⟨rfl, hb⟩
    replace hT := Rot.Tab.below (Rot.Tab.alloc hT _) hb
    have hXx := blk_call (blk_new w (.cells #[.int .i64 x1, .int .i64 x2] 25) (w.heap.size) (by simp)) hb
    replace hP := prow_below (prow_alloc hP _) hb
    replace hB := belT (belA hB _) hb
    clear hb
    go_wp2_with fail
    refine (little_is _ _ cap ps false _ rfl HL hle hP).mono ?_; rintro e w2 ⟨rfl, hb⟩
    replace hT := Rot.Tab.below hT hb
    replace hXx := blk_call hXx hb
    replace hP := prow_below hP hb
    replace hB := belT hB hb
    clear hb
    go_wp2_with fail
    go_ret
    exact ⟨rfl, hB⟩

set_option maxRecDepth 100000 in
theorem lifted (os : Os) (started : os.Started) (H : Type) (enc : TypeId × Value → H) :
    ReturnsInHanded {} Tryd.checked os 7 .any (fun w args => (Rows.polygonRotationPreservesGeometrySpec.pre enc Tryd.prog Tryd.f7 [] false w args ∧ laidMetH Tryd.prog Rows.polygonRotationPreservesGeometryRow.laid w) ∧ sizedMet enc Tryd.prog Tryd.f7 (OpenSpec.ofChange Rows.polygonRotationPreservesGeometrySpec) false w args)
      (Rows.polygonRotationPreservesGeometrySpec.post enc Tryd.prog Tryd.f7 false true false false) := by
  refine returnsInHanded_of_change_and (C := Tryd.checked) (X := fun w _ => laidMetH Tryd.prog Rows.polygonRotationPreservesGeometryRow.laid w) (fun _ _ _ hh h => h.of_heap hh) Rot.own started (by kernel_rfl) Tryd.func7
    (ChangeSpec.witness_shaped (enc := enc) (C := Tryd.checked) (os := os) (X := fun w _ => laidMetH Tryd.prog Rows.polygonRotationPreservesGeometryRow.laid w) false (World.doorLaid Tryd.prog 600 os) #[.slice none 0 0, .int .i64 0, .agg #[.int .i64 0, .int .i64 0]] 8 rfl (World.shaped_of_RefB (by kernel_rfl) (by kernel_rfl)) (by kernel_rfl) (by kernel_rfl) (by kernel_rfl) (show laidMetH Tryd.prog [(Rot.qn, Rows.laid_ambidexter_rotation_quadrant)] _ from Rot.door_met os _)) ?_
  intro W base args ds gs before hval0 hW _ _ hL _
  have hval : ∀ (j : Nat) t v, Tryd.f7.params[j]? = some t → args[j]? = some v → Value.okWide Tryd.prog W .any base t v := hval0
  have hW' := hW
  obtain ⟨p, q, hA0, hV, rfl, hfz, hnd⟩ := hW
  have hA : DataW.TrodAll enc Tryd.prog W 0 (fun _ => true) true Tryd.f7.params.toList args.toList ds p := hA0
  rw [Tryd.params7] at hA hval
  obtain ⟨v0, vs0, d0, ds0, p0, q0, hargs, rfl, rfl, h0, r0⟩ := trodAll_cons hA
  obtain ⟨v1, vs1, d1, ds1, p1, q1, rfl, rfl, rfl, h1, r1⟩ := trodAll_cons r0
  obtain ⟨v2, vs2, d2, ds2, p2, q2, rfl, rfl, rfl, h2, r2⟩ := trodAll_cons r1
  obtain ⟨rfl, rfl, rfl⟩ := trodAll_nil r2
  obtain rfl : args = #[v0, v1, v2] := by cases args; simp_all
  obtain ⟨rfl, rfl⟩ := trodVars_none hV
  have k0 := h0
  have lt0 : ∀ x ∈ p0, x.block < W.heap.size := by obtain ⟨m, hm⟩ := k0; exact DataW.trod_lt m _ _ _ hm
  obtain ⟨a0, cap0, l0, rfl, n0, w0⟩ := Fr.open_pts (hval 0 23 v0 rfl rfl) h0
  obtain ⟨a1, rfl, rfl, rfl, w1⟩ := open_int Tryd.underlying3 (hval 1 3 v1 rfl rfl) h1
  have k2 := h2
  have lt2 : ∀ x ∈ p2, x.block < W.heap.size := by obtain ⟨m, hm⟩ := k2; exact DataW.trod_lt m _ _ _ hm
  obtain ⟨x2, y2, rfl⟩ := Fr.open_pt (hval 2 25 v2 rfl rfl) h2
  clear hA0 hval0
  simp only [List.append_nil] at hW'
  refine (walk a0 cap0 l0 n0 w0 a1 w1 x2 y2 (Rot.tab_of_laid hL)).mono fun e W' ⟨he, bel⟩ => ?_
  subst he
  exact ⟨_, rfl, _, _, _, [], _, [], hW', trodAll_mk1 (shut_bool Tryd.underlying4 _), (trodAll_cons_mk (Below.trod Fr.laidOut (by kernel_rfl) (of_decide_eq_true (by kernel_rfl)) k0 bel lt0) (trodAll_cons_mk (shut_int Tryd.underlying3 w1) (trodAll_cons_mk (Below.trod Fr.laidOut (by kernel_rfl) (of_decide_eq_true (by kernel_rfl)) k2 bel lt2) trodAll_mk0))), rfl, bel.frame _, fun h => by cases h⟩

theorem holds : Rows.PolygonRotationPreservesGeometrySaid :=
  OpenClaim.holds_of_wide 7 Tryd.f7 rfl rfl rfl rfl rfl rfl rfl ⟨rfl, rfl, rfl, rfl, rfl⟩ rfl rfl rfl rfl rfl (by kernel_rfl) Tryd.func7 (by kernel_rfl)
    (of_decide_eq_true (by kernel_rfl)) (by unfold Func.isWrapper; first | (rw [if_pos (by decide +kernel)]; kernel_rfl) | (rw [if_neg (by decide +kernel)]; exact ⟨rfl, rfl⟩))
    (fun os started H enc _ => lifted os started H enc)

/-- THE STATEMENT: the tied card. -/
theorem card_holds : Rows.PolygonRotationPreservesGeometryCardSaid :=
  Claim7.holds_tied_plain_at .later [] [.data] true Rows.polygonRotationPreservesGeometryCard.stood.harness false
    holds (fun _ h => by cases h) (by kernel_rfl) (fun _ h => by cases h) polygonRotationPreservesGeometry_row_tie rfl ⟨rfl, rfl⟩ (by kernel_rfl) rfl
    (fun f fn hf hfn => by
      obtain rfl : f = 7 := Option.some.inj ((show Tryd.prog.funcNamed Rows.polygonRotationPreservesGeometryRow.func = some 7 by kernel_rfl).symm.trans hf) |>.symm
      obtain rfl : fn = Tryd.f7 := (Option.some.inj (Tryd.func7.symm.trans hfn)).symm
      exact ⟨by kernel_rfl, fun j t ht => by
        rw [Tryd.params7] at ht
        have hm : t ∈ [23, 3, 25] := by have := Array.mem_of_getElem? ht; simp only [List.mem_toArray, List.mem_cons, List.not_mem_nil, or_false] at this ⊢; grind
        have hall : ([23, 3, 25].all fun u => !Tryd.prog.wantsStandIn u) = true := by kernel_rfl
        exact (show Tryd.prog.wantsStandIn t = false by simpa using List.all_eq_true.1 hall t hm)⟩)
    (by kernel_rfl)
#print axioms card_holds
end Go.Proofs.YthmcejeeohlafaaDoor.polygonRotationPreservesGeometry
