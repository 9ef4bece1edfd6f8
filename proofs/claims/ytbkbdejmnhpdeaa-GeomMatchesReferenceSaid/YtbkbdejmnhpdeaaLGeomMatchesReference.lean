/- Proved: every function of package geom returns what the reference returns (the law GeomMatchesReference returns true).
Conditions: none on the arguments: for all four points, both values of the flag and all two slices of points. -/
import Derived.Test.YtbkbdejmnhpdeaaGeoL
import Derived.Test.YtbkbdejmnhpdeaaGeoReg
import Derived.Test.YtbkbdejmnhpdeaaGeoK
import Derived.Test.YtbkbdejmnhpdeaaGeoQ
import Derived.Test.YtbkbdejmnhpdeaaGeoBx
import Derived.Test.YtbkbdejmnhpdeaaGeoFr
namespace Go.Proofs.Ytbkbdejmnhpdeaa.geomMatchesReference
open Go.ChangeShapes Go.WideShapes Go.ChangeAt Go.RowKit
set_option linter.unusedVariables false

/-- What Fits returns, by the list alone. -/
def Fou (u : List (Int × Int)) (e : Ending) (w' : World) : Prop := ∃ ao' cap', e = .returned (.slice ao' u.length cap') ∧ PRow w' ao' u
theorem add_r (a b c d u v : Int) (w : World) (h : Hid (wrap64 (a + c) = u)) (g : Hid (wrap64 (b + d) = v)) : Calls Try.prog 15 #[.agg #[.int .i64 a, .int .i64 b], .agg #[.int .i64 c, .int .i64 d]] w fun e w' => e = .returned (.agg #[.int .i64 u, .int .i64 v]) ∧ Below w.heap.size w w' := by
  have := add_any a b c d w; rw [h.out, g.out] at this; exact this
theorem radd_r (a b c d u v : Int) (w : World) (h : Hid (wrap64 (a + c) = u)) (g : Hid (wrap64 (b + d) = v)) : Calls Try.prog 16 #[.agg #[.int .i64 a, .int .i64 b], .agg #[.int .i64 c, .int .i64 d]] w fun e w' => e = .returned (.agg #[.int .i64 u, .int .i64 v]) ∧ Below w.heap.size w w' := by
  have := radd_any a b c d w; rw [h.out, g.out] at this; exact this
theorem sub_r (a b c d u v : Int) (w : World) (h : Hid (wrap64 (a - c) = u)) (g : Hid (wrap64 (b - d) = v)) : Calls Try.prog 17 #[.agg #[.int .i64 a, .int .i64 b], .agg #[.int .i64 c, .int .i64 d]] w fun e w' => e = .returned (.agg #[.int .i64 u, .int .i64 v]) ∧ Below w.heap.size w w' := by
  have := sub_any a b c d w; rw [h.out, g.out] at this; exact this
theorem rsub_r (a b c d u v : Int) (w : World) (h : Hid (wrap64 (a - c) = u)) (g : Hid (wrap64 (b - d) = v)) : Calls Try.prog 18 #[.agg #[.int .i64 a, .int .i64 b], .agg #[.int .i64 c, .int .i64 d]] w fun e w' => e = .returned (.agg #[.int .i64 u, .int .i64 v]) ∧ Below w.heap.size w w' := by
  have := rsub_any a b c d w; rw [h.out, g.out] at this; exact this
theorem rcut_r (a b c d p q r s : Int) (v : Bool) (w : World) (ka : InY a) (kb : InY b) (kc : InY c) (kd : InY d) (kp : InY p) (kq : InY q) (kr : InY r) (ks : InY s) (h : Hid (segB a b c d p q r s = v)) :
    Calls Try.prog 24 #[.agg #[.int .i64 a, .int .i64 b], .agg #[.int .i64 c, .int .i64 d], .agg #[.int .i64 p, .int .i64 q], .agg #[.int .i64 r, .int .i64 s]] w fun e w' => e = .returned (.bool v) ∧ Below w.heap.size w w' := by
  have := rcut_any a b c d p q r s w ka kb kc kd kp kq kr ks; rw [h.out] at this; exact this
theorem bd_r (ao bo : Option Addr) (ca cb : Nat) (u v : List (Int × Int)) (x : Int) (w : World) (na : u.length ≤ 1000000) (nb : v.length ≤ 1000000) (pa : PRow w ao u) (pb : PRow w bo v) (ra : AllR u) (rb : AllR v) (h : Hid (boxD u v = x)) :
    Calls Try.prog 25 #[.slice ao u.length ca, .slice bo v.length cb] w fun e w' => e = .returned (.int .i64 x) ∧ Below w.heap.size w w' := by
  have := boxdist_any ao bo ca cb u v w na nb pa pb ra rb; rw [h.out] at this; exact this
theorem rgap_r (ao bo : Option Addr) (ca cb : Nat) (u v : List (Int × Int)) (x : Int) (w : World) (na : u.length ≤ 1000000) (nb : v.length ≤ 1000000) (pa : PRow w ao u) (pb : PRow w bo v) (ra : AllR u) (rb : AllR v) (h : Hid (boxD u v = x)) :
    Calls Try.prog 26 #[.slice ao u.length ca, .slice bo v.length cb] w fun e w' => e = .returned (.int .i64 x) ∧ Below w.heap.size w w' := by
  have := rgap_any ao bo ca cb u v w na nb pa pb ra rb; rw [h.out] at this; exact this
theorem fits_r (ao : Option Addr) (len cap : Nat) (l u : List (Int × Int)) (w : World) (hA : APts w ao len l) (hu : Hid (fitL l = u)) :
    Calls Try.prog 12 #[.slice ao len cap] w fun e w' => Fou u e w' ∧ Below w.heap.size w w' := by
  have := fits_any ao len cap l w hA; unfold Fout at this; rw [hu.out] at this; exact this
theorem apts_below {w w' : World} {ao : Option Addr} {n : Nat} {l : List (Int × Int)} (h : APts w ao n l) (hb : Below w.heap.size w w') : APts w' ao n l :=
  ⟨h.1, fun i hi => by
    obtain ⟨a, e, c1, c2⟩ := h.2 i hi
    exact ⟨a, e, (hb.cell (World.block_lt_of_cell? w _ c1)).trans c1, (hb.cell (World.block_lt_of_cell? w _ c2)).trans c2⟩⟩
theorem fitL_inr (l : List (Int × Int)) : AllR (fitL l) := fun i hi => by
  have : ((fitL l).getD i (0, 0)) = fitP ((l.take 30)[i]'(by simpa [fitL] using hi)) := by
    rw [List.getD_eq_getElem?_getD, List.getElem?_eq_getElem hi]
    simp [fitL]
  rw [this]
  exact ⟨(fit_y _).inr, (fit_y _).inr⟩

set_option maxRecDepth 100000 in
set_option maxHeartbeats 16000000 in
theorem walk_y (x0 x1 x2 x3 x4 x5 x6 x7 : Int) (s : Bool) (ao : Option Addr) (lena capa : Nat) (l : List (Int × Int)) (bo : Option Addr) (lenb capb : Nat) (m : List (Int × Int)) (w : World) (hl : APts w ao lena l) (hm : APts w bo lenb m) (y0 y1 y2 y3 y4 y5 y6 y7 : Int) (by0 : InY y0) (by1 : InY y1) (by2 : InY y2) (by3 : InY y3) (by4 : InY y4) (by5 : InY y5) (by6 : InY y6) (by7 : InY y7) (HP : Hid (∀ w : World, Calls Try.prog 11 #[.agg #[.int .i64 x0, .int .i64 x1, .int .i64 x2, .int .i64 x3, .int .i64 x4, .int .i64 x5, .int .i64 x6, .int .i64 x7], .bool s] w fun e w' => e = .returned (.agg #[.int .i64 y0, .int .i64 y1, .int .i64 y2, .int .i64 y3, .int .i64 y4, .int .i64 y5, .int .i64 y6, .int .i64 y7]) ∧ Below w.heap.size w w')) :
    Calls Try.prog 3 #[.agg #[.int .i64 x0, .int .i64 x1, .int .i64 x2, .int .i64 x3, .int .i64 x4, .int .i64 x5, .int .i64 x6, .int .i64 x7], .bool s, .slice ao lena capa, .slice bo lenb capb] w fun e w' => e = .returned (.bool true) ∧ Below w.heap.size w w' := by
  have ra := fitL_inr l
  have rb := fitL_inr m
  have na : (fitL l).length ≤ 1000000 := by have := fitL_len l; omega
  have nb : (fitL m).length ≤ 1000000 := by have := fitL_len m; omega
  have PL := Lib.hid hl
  have PM := Lib.hid hm
  clear hl hm
  obtain ⟨u, hu⟩ : ∃ u, fitL l = u := ⟨_, rfl⟩
  obtain ⟨v, hv⟩ : ∃ v, fitL m = v := ⟨_, rfl⟩
  rw [hu] at ra na
  rw [hv] at rb nb
  have HU := Lib.hid hu
  have HV := Lib.hid hv
  obtain ⟨c0, c1, hc⟩ : ∃ x y, foldP lowP u = (x, y) := ⟨_, _, rfl⟩
  obtain ⟨d0, d1, hd⟩ : ∃ x y, foldP uppP u = (x, y) := ⟨_, _, rfl⟩
  obtain ⟨o1, ho1⟩ : ∃ x, ori y0 y1 y2 y3 y4 y5 = x := ⟨_, rfl⟩
  obtain ⟨o2, ho2⟩ : ∃ x, onB y0 y1 y2 y3 y4 y5 = x := ⟨_, rfl⟩
  obtain ⟨o3, ho3⟩ : ∃ x, segB y0 y1 y2 y3 y4 y5 y6 y7 = x := ⟨_, rfl⟩
  obtain ⟨o4, ho4⟩ : ∃ x, boxD u v = x := ⟨_, rfl⟩
  obtain ⟨s0, hs0⟩ : ∃ x, wrap64 (x0 + x2) = x := ⟨_, rfl⟩
  obtain ⟨s1, hs1⟩ : ∃ x, wrap64 (x1 + x3) = x := ⟨_, rfl⟩
  obtain ⟨t0, ht0⟩ : ∃ x, wrap64 (x0 - x2) = x := ⟨_, rfl⟩
  obtain ⟨t1, ht1⟩ : ∃ x, wrap64 (x1 - x3) = x := ⟨_, rfl⟩
  have HC := Lib.hid hc
  have HD := Lib.hid hd
  have HO1 := Lib.hid ho1
  have HO2 := Lib.hid ho2
  have HO3 := Lib.hid ho3
  have HO4 := Lib.hid ho4
  have HS0 := Lib.hid hs0
  have HS1 := Lib.hid hs1
  have HT0 := Lib.hid ht0
  have HT1 := Lib.hid ht1
  clear hu hv hc hd ho1 ho2 ho3 ho4 hs0 hs1 ht0 ht1
  have hB : Below w.heap.size w w := Below.refl _ _
  go_enter Try.func3, Try.ntmps3
  go_wp2_with fail
  refine (head_any _).mono ?_; rintro e w1 ⟨rfl, hb⟩
  have k1 : w1.cell? ⟨w.heap.size, 0, none⟩ = some (.int .i64 x0) := cell_call (cbx w #[.int .i64 x0, .int .i64 x1, .int .i64 x2, .int .i64 x3, .int .i64 x4, .int .i64 x5, .int .i64 x6, .int .i64 x7] 24 (w.heap.size) 0 (.int .i64 x0) (by simp) rfl) hb
  have k2 : w1.cell? ⟨w.heap.size, 1, none⟩ = some (.int .i64 x1) := cell_call (cbx w #[.int .i64 x0, .int .i64 x1, .int .i64 x2, .int .i64 x3, .int .i64 x4, .int .i64 x5, .int .i64 x6, .int .i64 x7] 24 (w.heap.size) 1 (.int .i64 x1) (by simp) rfl) hb
  have k3 : w1.cell? ⟨w.heap.size, 2, none⟩ = some (.int .i64 x2) := cell_call (cbx w #[.int .i64 x0, .int .i64 x1, .int .i64 x2, .int .i64 x3, .int .i64 x4, .int .i64 x5, .int .i64 x6, .int .i64 x7] 24 (w.heap.size) 2 (.int .i64 x2) (by simp) rfl) hb
  have k4 : w1.cell? ⟨w.heap.size, 3, none⟩ = some (.int .i64 x3) := cell_call (cbx w #[.int .i64 x0, .int .i64 x1, .int .i64 x2, .int .i64 x3, .int .i64 x4, .int .i64 x5, .int .i64 x6, .int .i64 x7] 24 (w.heap.size) 3 (.int .i64 x3) (by simp) rfl) hb
  have k5 : w1.cell? ⟨w.heap.size, 4, none⟩ = some (.int .i64 x4) := cell_call (cbx w #[.int .i64 x0, .int .i64 x1, .int .i64 x2, .int .i64 x3, .int .i64 x4, .int .i64 x5, .int .i64 x6, .int .i64 x7] 24 (w.heap.size) 4 (.int .i64 x4) (by simp) rfl) hb
  have k6 : w1.cell? ⟨w.heap.size, 5, none⟩ = some (.int .i64 x5) := cell_call (cbx w #[.int .i64 x0, .int .i64 x1, .int .i64 x2, .int .i64 x3, .int .i64 x4, .int .i64 x5, .int .i64 x6, .int .i64 x7] 24 (w.heap.size) 5 (.int .i64 x5) (by simp) rfl) hb
  have k7 : w1.cell? ⟨w.heap.size, 6, none⟩ = some (.int .i64 x6) := cell_call (cbx w #[.int .i64 x0, .int .i64 x1, .int .i64 x2, .int .i64 x3, .int .i64 x4, .int .i64 x5, .int .i64 x6, .int .i64 x7] 24 (w.heap.size) 6 (.int .i64 x6) (by simp) rfl) hb
  have k8 : w1.cell? ⟨w.heap.size, 7, none⟩ = some (.int .i64 x7) := cell_call (cbx w #[.int .i64 x0, .int .i64 x1, .int .i64 x2, .int .i64 x3, .int .i64 x4, .int .i64 x5, .int .i64 x6, .int .i64 x7] 24 (w.heap.size) 7 (.int .i64 x7) (by simp) rfl) hb
  replace hB := belT (belA hB _) hb
  clear hb
  have zk1 : w.heap.size < w1.heap.size := World.block_lt_of_cell? w1 _ k1
  go_wp2_with fail
  refine (HP.out _).mono ?_; rintro e w2 ⟨rfl, hb⟩
  replace k1 : w2.cell? ⟨w.heap.size, 0, none⟩ = some (.int .i64 x0) := cell_call k1 hb
  replace k2 : w2.cell? ⟨w.heap.size, 1, none⟩ = some (.int .i64 x1) := cell_call k2 hb
  replace k3 : w2.cell? ⟨w.heap.size, 2, none⟩ = some (.int .i64 x2) := cell_call k3 hb
  replace k4 : w2.cell? ⟨w.heap.size, 3, none⟩ = some (.int .i64 x3) := cell_call k4 hb
  replace k5 : w2.cell? ⟨w.heap.size, 4, none⟩ = some (.int .i64 x4) := cell_call k5 hb
  replace k6 : w2.cell? ⟨w.heap.size, 5, none⟩ = some (.int .i64 x5) := cell_call k6 hb
  replace k7 : w2.cell? ⟨w.heap.size, 6, none⟩ = some (.int .i64 x6) := cell_call k7 hb
  replace k8 : w2.cell? ⟨w.heap.size, 7, none⟩ = some (.int .i64 x7) := cell_call k8 hb
  replace hB := belT hB hb
  clear hb
  replace zk1 : w.heap.size < w2.heap.size := World.block_lt_of_cell? w2 _ k1
  go_wp2_with fail
  refine (fits_r ao lena capa l u _ (apts_below (apts_below PL.out hB) (belA (Below.refl _ _) _)) HU).mono ?_; rintro e w3 ⟨⟨ra0, rc0, rfl, pa⟩, hb⟩
  replace k1 : w3.cell? ⟨w.heap.size, 0, none⟩ = some (.int .i64 x0) := cell_call (cell_alloc k1 _) hb
  replace k2 : w3.cell? ⟨w.heap.size, 1, none⟩ = some (.int .i64 x1) := cell_call (cell_alloc k2 _) hb
  replace k3 : w3.cell? ⟨w.heap.size, 2, none⟩ = some (.int .i64 x2) := cell_call (cell_alloc k3 _) hb
  replace k4 : w3.cell? ⟨w.heap.size, 3, none⟩ = some (.int .i64 x3) := cell_call (cell_alloc k4 _) hb
  replace k5 : w3.cell? ⟨w.heap.size, 4, none⟩ = some (.int .i64 x4) := cell_call (cell_alloc k5 _) hb
  replace k6 : w3.cell? ⟨w.heap.size, 5, none⟩ = some (.int .i64 x5) := cell_call (cell_alloc k6 _) hb
  replace k7 : w3.cell? ⟨w.heap.size, 6, none⟩ = some (.int .i64 x6) := cell_call (cell_alloc k7 _) hb
  replace k8 : w3.cell? ⟨w.heap.size, 7, none⟩ = some (.int .i64 x7) := cell_call (cell_alloc k8 _) hb
  have k9 : w3.cell? ⟨w2.heap.size, 0, none⟩ = some (.int .i64 y0) := cell_call (cbx w2 #[.int .i64 y0, .int .i64 y1, .int .i64 y2, .int .i64 y3, .int .i64 y4, .int .i64 y5, .int .i64 y6, .int .i64 y7] 24 (w2.heap.size) 0 (.int .i64 y0) (by simp) rfl) hb
  have k10 : w3.cell? ⟨w2.heap.size, 1, none⟩ = some (.int .i64 y1) := cell_call (cbx w2 #[.int .i64 y0, .int .i64 y1, .int .i64 y2, .int .i64 y3, .int .i64 y4, .int .i64 y5, .int .i64 y6, .int .i64 y7] 24 (w2.heap.size) 1 (.int .i64 y1) (by simp) rfl) hb
  have k11 : w3.cell? ⟨w2.heap.size, 2, none⟩ = some (.int .i64 y2) := cell_call (cbx w2 #[.int .i64 y0, .int .i64 y1, .int .i64 y2, .int .i64 y3, .int .i64 y4, .int .i64 y5, .int .i64 y6, .int .i64 y7] 24 (w2.heap.size) 2 (.int .i64 y2) (by simp) rfl) hb
  have k12 : w3.cell? ⟨w2.heap.size, 3, none⟩ = some (.int .i64 y3) := cell_call (cbx w2 #[.int .i64 y0, .int .i64 y1, .int .i64 y2, .int .i64 y3, .int .i64 y4, .int .i64 y5, .int .i64 y6, .int .i64 y7] 24 (w2.heap.size) 3 (.int .i64 y3) (by simp) rfl) hb
  have k13 : w3.cell? ⟨w2.heap.size, 4, none⟩ = some (.int .i64 y4) := cell_call (cbx w2 #[.int .i64 y0, .int .i64 y1, .int .i64 y2, .int .i64 y3, .int .i64 y4, .int .i64 y5, .int .i64 y6, .int .i64 y7] 24 (w2.heap.size) 4 (.int .i64 y4) (by simp) rfl) hb
  have k14 : w3.cell? ⟨w2.heap.size, 5, none⟩ = some (.int .i64 y5) := cell_call (cbx w2 #[.int .i64 y0, .int .i64 y1, .int .i64 y2, .int .i64 y3, .int .i64 y4, .int .i64 y5, .int .i64 y6, .int .i64 y7] 24 (w2.heap.size) 5 (.int .i64 y5) (by simp) rfl) hb
  have k15 : w3.cell? ⟨w2.heap.size, 6, none⟩ = some (.int .i64 y6) := cell_call (cbx w2 #[.int .i64 y0, .int .i64 y1, .int .i64 y2, .int .i64 y3, .int .i64 y4, .int .i64 y5, .int .i64 y6, .int .i64 y7] 24 (w2.heap.size) 6 (.int .i64 y6) (by simp) rfl) hb
  have k16 : w3.cell? ⟨w2.heap.size, 7, none⟩ = some (.int .i64 y7) := cell_call (cbx w2 #[.int .i64 y0, .int .i64 y1, .int .i64 y2, .int .i64 y3, .int .i64 y4, .int .i64 y5, .int .i64 y6, .int .i64 y7] 24 (w2.heap.size) 7 (.int .i64 y7) (by simp) rfl) hb
  replace hB := belT (belA hB _) hb
  clear hb
  replace zk1 : w.heap.size < w3.heap.size := World.block_lt_of_cell? w3 _ k1
  have zk9 : w2.heap.size < w3.heap.size := World.block_lt_of_cell? w3 _ k9
  go_wp2_with fail
  refine (fits_r bo lenb capb m v _ (apts_below PM.out hB) HV).mono ?_; rintro e w4 ⟨⟨rb0, rd0, rfl, pb⟩, hb⟩
  replace k1 : w4.cell? ⟨w.heap.size, 0, none⟩ = some (.int .i64 x0) := cell_call k1 hb
  replace k2 : w4.cell? ⟨w.heap.size, 1, none⟩ = some (.int .i64 x1) := cell_call k2 hb
  replace k3 : w4.cell? ⟨w.heap.size, 2, none⟩ = some (.int .i64 x2) := cell_call k3 hb
  replace k4 : w4.cell? ⟨w.heap.size, 3, none⟩ = some (.int .i64 x3) := cell_call k4 hb
  replace k5 : w4.cell? ⟨w.heap.size, 4, none⟩ = some (.int .i64 x4) := cell_call k5 hb
  replace k6 : w4.cell? ⟨w.heap.size, 5, none⟩ = some (.int .i64 x5) := cell_call k6 hb
  replace k7 : w4.cell? ⟨w.heap.size, 6, none⟩ = some (.int .i64 x6) := cell_call k7 hb
  replace k8 : w4.cell? ⟨w.heap.size, 7, none⟩ = some (.int .i64 x7) := cell_call k8 hb
  replace k9 : w4.cell? ⟨w2.heap.size, 0, none⟩ = some (.int .i64 y0) := cell_call k9 hb
  replace k10 : w4.cell? ⟨w2.heap.size, 1, none⟩ = some (.int .i64 y1) := cell_call k10 hb
  replace k11 : w4.cell? ⟨w2.heap.size, 2, none⟩ = some (.int .i64 y2) := cell_call k11 hb
  replace k12 : w4.cell? ⟨w2.heap.size, 3, none⟩ = some (.int .i64 y3) := cell_call k12 hb
  replace k13 : w4.cell? ⟨w2.heap.size, 4, none⟩ = some (.int .i64 y4) := cell_call k13 hb
  replace k14 : w4.cell? ⟨w2.heap.size, 5, none⟩ = some (.int .i64 y5) := cell_call k14 hb
  replace k15 : w4.cell? ⟨w2.heap.size, 6, none⟩ = some (.int .i64 y6) := cell_call k15 hb
  replace k16 : w4.cell? ⟨w2.heap.size, 7, none⟩ = some (.int .i64 y7) := cell_call k16 hb
  replace hB := belT hB hb
  replace pa := prow_below pa hb
  clear hb
  replace zk1 : w.heap.size < w4.heap.size := World.block_lt_of_cell? w4 _ k1
  replace zk9 : w2.heap.size < w4.heap.size := World.block_lt_of_cell? w4 _ k9
  have QA := Lib.hid pa
  have QB := Lib.hid pb
  clear pa pb PL PM HU HV HP
  go_wp2_with fail
  refine (bbox_is ra0 rc0 u _ na QA.out c0 c1 d0 d1 HC HD).mono ?_; rintro e w5 ⟨rfl, hb⟩
  replace k1 : w5.cell? ⟨w.heap.size, 0, none⟩ = some (.int .i64 x0) := cell_call k1 hb
  replace k2 : w5.cell? ⟨w.heap.size, 1, none⟩ = some (.int .i64 x1) := cell_call k2 hb
  replace k3 : w5.cell? ⟨w.heap.size, 2, none⟩ = some (.int .i64 x2) := cell_call k3 hb
  replace k4 : w5.cell? ⟨w.heap.size, 3, none⟩ = some (.int .i64 x3) := cell_call k4 hb
  replace k5 : w5.cell? ⟨w.heap.size, 4, none⟩ = some (.int .i64 x4) := cell_call k5 hb
  replace k6 : w5.cell? ⟨w.heap.size, 5, none⟩ = some (.int .i64 x5) := cell_call k6 hb
  replace k7 : w5.cell? ⟨w.heap.size, 6, none⟩ = some (.int .i64 x6) := cell_call k7 hb
  replace k8 : w5.cell? ⟨w.heap.size, 7, none⟩ = some (.int .i64 x7) := cell_call k8 hb
  replace k9 : w5.cell? ⟨w2.heap.size, 0, none⟩ = some (.int .i64 y0) := cell_call k9 hb
  replace k10 : w5.cell? ⟨w2.heap.size, 1, none⟩ = some (.int .i64 y1) := cell_call k10 hb
  replace k11 : w5.cell? ⟨w2.heap.size, 2, none⟩ = some (.int .i64 y2) := cell_call k11 hb
  replace k12 : w5.cell? ⟨w2.heap.size, 3, none⟩ = some (.int .i64 y3) := cell_call k12 hb
  replace k13 : w5.cell? ⟨w2.heap.size, 4, none⟩ = some (.int .i64 y4) := cell_call k13 hb
  replace k14 : w5.cell? ⟨w2.heap.size, 5, none⟩ = some (.int .i64 y5) := cell_call k14 hb
  replace k15 : w5.cell? ⟨w2.heap.size, 6, none⟩ = some (.int .i64 y6) := cell_call k15 hb
  replace k16 : w5.cell? ⟨w2.heap.size, 7, none⟩ = some (.int .i64 y7) := cell_call k16 hb
  replace hB := belT hB hb
  replace QA := Lib.hid (prow_below QA.out hb)
  replace QB := Lib.hid (prow_below QB.out hb)
  clear hb
  replace zk1 : w.heap.size < w5.heap.size := World.block_lt_of_cell? w5 _ k1
  replace zk9 : w2.heap.size < w5.heap.size := World.block_lt_of_cell? w5 _ k9
  go_wp2_with fail
  refine (rbox_is ra0 rc0 u _ na (prow_alloc (prow_alloc QA.out _) _) c0 c1 d0 d1 HC HD).mono ?_; rintro e w6 ⟨rfl, hb⟩
  replace k1 : w6.cell? ⟨w.heap.size, 0, none⟩ = some (.int .i64 x0) := cell_call (cell_alloc (cell_alloc k1 _) _) hb
  replace k2 : w6.cell? ⟨w.heap.size, 1, none⟩ = some (.int .i64 x1) := cell_call (cell_alloc (cell_alloc k2 _) _) hb
  replace k3 : w6.cell? ⟨w.heap.size, 2, none⟩ = some (.int .i64 x2) := cell_call (cell_alloc (cell_alloc k3 _) _) hb
  replace k4 : w6.cell? ⟨w.heap.size, 3, none⟩ = some (.int .i64 x3) := cell_call (cell_alloc (cell_alloc k4 _) _) hb
  replace k5 : w6.cell? ⟨w.heap.size, 4, none⟩ = some (.int .i64 x4) := cell_call (cell_alloc (cell_alloc k5 _) _) hb
  replace k6 : w6.cell? ⟨w.heap.size, 5, none⟩ = some (.int .i64 x5) := cell_call (cell_alloc (cell_alloc k6 _) _) hb
  replace k7 : w6.cell? ⟨w.heap.size, 6, none⟩ = some (.int .i64 x6) := cell_call (cell_alloc (cell_alloc k7 _) _) hb
  replace k8 : w6.cell? ⟨w.heap.size, 7, none⟩ = some (.int .i64 x7) := cell_call (cell_alloc (cell_alloc k8 _) _) hb
  replace k9 : w6.cell? ⟨w2.heap.size, 0, none⟩ = some (.int .i64 y0) := cell_call (cell_alloc (cell_alloc k9 _) _) hb
  replace k10 : w6.cell? ⟨w2.heap.size, 1, none⟩ = some (.int .i64 y1) := cell_call (cell_alloc (cell_alloc k10 _) _) hb
  replace k11 : w6.cell? ⟨w2.heap.size, 2, none⟩ = some (.int .i64 y2) := cell_call (cell_alloc (cell_alloc k11 _) _) hb
  replace k12 : w6.cell? ⟨w2.heap.size, 3, none⟩ = some (.int .i64 y3) := cell_call (cell_alloc (cell_alloc k12 _) _) hb
  replace k13 : w6.cell? ⟨w2.heap.size, 4, none⟩ = some (.int .i64 y4) := cell_call (cell_alloc (cell_alloc k13 _) _) hb
  replace k14 : w6.cell? ⟨w2.heap.size, 5, none⟩ = some (.int .i64 y5) := cell_call (cell_alloc (cell_alloc k14 _) _) hb
  replace k15 : w6.cell? ⟨w2.heap.size, 6, none⟩ = some (.int .i64 y6) := cell_call (cell_alloc (cell_alloc k15 _) _) hb
  replace k16 : w6.cell? ⟨w2.heap.size, 7, none⟩ = some (.int .i64 y7) := cell_call (cell_alloc (cell_alloc k16 _) _) hb
  have k17 : w6.cell? ⟨w5.heap.size, 0, none⟩ = some (.int .i64 c0) := cell_call (cell_alloc (cbx w5 #[.int .i64 c0, .int .i64 c1] 23 (w5.heap.size) 0 (.int .i64 c0) (by simp) rfl) _) hb
  have k18 : w6.cell? ⟨w5.heap.size, 1, none⟩ = some (.int .i64 c1) := cell_call (cell_alloc (cbx w5 #[.int .i64 c0, .int .i64 c1] 23 (w5.heap.size) 1 (.int .i64 c1) (by simp) rfl) _) hb
  have k19 : w6.cell? ⟨w5.heap.size + 1, 0, none⟩ = some (.int .i64 d0) := cell_call (cbx (w5.alloc (.cells #[.int .i64 c0, .int .i64 c1] 23)) #[.int .i64 d0, .int .i64 d1] 23 (w5.heap.size + 1) 0 (.int .i64 d0) (by simp) rfl) hb
  have k20 : w6.cell? ⟨w5.heap.size + 1, 1, none⟩ = some (.int .i64 d1) := cell_call (cbx (w5.alloc (.cells #[.int .i64 c0, .int .i64 c1] 23)) #[.int .i64 d0, .int .i64 d1] 23 (w5.heap.size + 1) 1 (.int .i64 d1) (by simp) rfl) hb
  replace hB := belT (belA (belA hB _) _) hb
  replace QA := Lib.hid (prow_below (prow_alloc (prow_alloc QA.out _) _) hb)
  replace QB := Lib.hid (prow_below (prow_alloc (prow_alloc QB.out _) _) hb)
  clear hb
  replace zk1 : w.heap.size < w6.heap.size := World.block_lt_of_cell? w6 _ k1
  replace zk9 : w2.heap.size < w6.heap.size := World.block_lt_of_cell? w6 _ k9
  have zk17 : w5.heap.size < w6.heap.size := World.block_lt_of_cell? w6 _ k17
  have zk19 : w5.heap.size + 1 < w6.heap.size := World.block_lt_of_cell? w6 _ k19
  go_wp2_with fail
  simp only [List.append_eq, List.cons_append, List.nil_append]
  replace QA : Hid (PRow ((w6.alloc (.cells #[.int .i64 c0, .int .i64 c1] 23)).alloc (.cells #[.int .i64 d0, .int .i64 d1] 23)) ra0 u) := Lib.hid (prow_alloc (prow_alloc QA.out _) _)
  replace QB : Hid (PRow ((w6.alloc (.cells #[.int .i64 c0, .int .i64 c1] 23)).alloc (.cells #[.int .i64 d0, .int .i64 d1] 23)) rb0 v) := Lib.hid (prow_alloc (prow_alloc QB.out _) _)
  replace k1 : ((w6.alloc (.cells #[.int .i64 c0, .int .i64 c1] 23)).alloc (.cells #[.int .i64 d0, .int .i64 d1] 23)).cell? ⟨w.heap.size, 0, none⟩ = some (.int .i64 x0) := (cell_alloc (cell_alloc k1 _) _)
  replace k2 : ((w6.alloc (.cells #[.int .i64 c0, .int .i64 c1] 23)).alloc (.cells #[.int .i64 d0, .int .i64 d1] 23)).cell? ⟨w.heap.size, 1, none⟩ = some (.int .i64 x1) := (cell_alloc (cell_alloc k2 _) _)
  replace k3 : ((w6.alloc (.cells #[.int .i64 c0, .int .i64 c1] 23)).alloc (.cells #[.int .i64 d0, .int .i64 d1] 23)).cell? ⟨w.heap.size, 2, none⟩ = some (.int .i64 x2) := (cell_alloc (cell_alloc k3 _) _)
  replace k4 : ((w6.alloc (.cells #[.int .i64 c0, .int .i64 c1] 23)).alloc (.cells #[.int .i64 d0, .int .i64 d1] 23)).cell? ⟨w.heap.size, 3, none⟩ = some (.int .i64 x3) := (cell_alloc (cell_alloc k4 _) _)
  replace k5 : ((w6.alloc (.cells #[.int .i64 c0, .int .i64 c1] 23)).alloc (.cells #[.int .i64 d0, .int .i64 d1] 23)).cell? ⟨w.heap.size, 4, none⟩ = some (.int .i64 x4) := (cell_alloc (cell_alloc k5 _) _)
  replace k6 : ((w6.alloc (.cells #[.int .i64 c0, .int .i64 c1] 23)).alloc (.cells #[.int .i64 d0, .int .i64 d1] 23)).cell? ⟨w.heap.size, 5, none⟩ = some (.int .i64 x5) := (cell_alloc (cell_alloc k6 _) _)
  replace k7 : ((w6.alloc (.cells #[.int .i64 c0, .int .i64 c1] 23)).alloc (.cells #[.int .i64 d0, .int .i64 d1] 23)).cell? ⟨w.heap.size, 6, none⟩ = some (.int .i64 x6) := (cell_alloc (cell_alloc k7 _) _)
  replace k8 : ((w6.alloc (.cells #[.int .i64 c0, .int .i64 c1] 23)).alloc (.cells #[.int .i64 d0, .int .i64 d1] 23)).cell? ⟨w.heap.size, 7, none⟩ = some (.int .i64 x7) := (cell_alloc (cell_alloc k8 _) _)
  replace k9 : ((w6.alloc (.cells #[.int .i64 c0, .int .i64 c1] 23)).alloc (.cells #[.int .i64 d0, .int .i64 d1] 23)).cell? ⟨w2.heap.size, 0, none⟩ = some (.int .i64 y0) := (cell_alloc (cell_alloc k9 _) _)
  replace k10 : ((w6.alloc (.cells #[.int .i64 c0, .int .i64 c1] 23)).alloc (.cells #[.int .i64 d0, .int .i64 d1] 23)).cell? ⟨w2.heap.size, 1, none⟩ = some (.int .i64 y1) := (cell_alloc (cell_alloc k10 _) _)
  replace k11 : ((w6.alloc (.cells #[.int .i64 c0, .int .i64 c1] 23)).alloc (.cells #[.int .i64 d0, .int .i64 d1] 23)).cell? ⟨w2.heap.size, 2, none⟩ = some (.int .i64 y2) := (cell_alloc (cell_alloc k11 _) _)
  replace k12 : ((w6.alloc (.cells #[.int .i64 c0, .int .i64 c1] 23)).alloc (.cells #[.int .i64 d0, .int .i64 d1] 23)).cell? ⟨w2.heap.size, 3, none⟩ = some (.int .i64 y3) := (cell_alloc (cell_alloc k12 _) _)
  replace k13 : ((w6.alloc (.cells #[.int .i64 c0, .int .i64 c1] 23)).alloc (.cells #[.int .i64 d0, .int .i64 d1] 23)).cell? ⟨w2.heap.size, 4, none⟩ = some (.int .i64 y4) := (cell_alloc (cell_alloc k13 _) _)
  replace k14 : ((w6.alloc (.cells #[.int .i64 c0, .int .i64 c1] 23)).alloc (.cells #[.int .i64 d0, .int .i64 d1] 23)).cell? ⟨w2.heap.size, 5, none⟩ = some (.int .i64 y5) := (cell_alloc (cell_alloc k14 _) _)
  replace k15 : ((w6.alloc (.cells #[.int .i64 c0, .int .i64 c1] 23)).alloc (.cells #[.int .i64 d0, .int .i64 d1] 23)).cell? ⟨w2.heap.size, 6, none⟩ = some (.int .i64 y6) := (cell_alloc (cell_alloc k15 _) _)
  replace k16 : ((w6.alloc (.cells #[.int .i64 c0, .int .i64 c1] 23)).alloc (.cells #[.int .i64 d0, .int .i64 d1] 23)).cell? ⟨w2.heap.size, 7, none⟩ = some (.int .i64 y7) := (cell_alloc (cell_alloc k16 _) _)
  replace k17 : ((w6.alloc (.cells #[.int .i64 c0, .int .i64 c1] 23)).alloc (.cells #[.int .i64 d0, .int .i64 d1] 23)).cell? ⟨w5.heap.size, 0, none⟩ = some (.int .i64 c0) := (cell_alloc (cell_alloc k17 _) _)
  replace k18 : ((w6.alloc (.cells #[.int .i64 c0, .int .i64 c1] 23)).alloc (.cells #[.int .i64 d0, .int .i64 d1] 23)).cell? ⟨w5.heap.size, 1, none⟩ = some (.int .i64 c1) := (cell_alloc (cell_alloc k18 _) _)
  replace k19 : ((w6.alloc (.cells #[.int .i64 c0, .int .i64 c1] 23)).alloc (.cells #[.int .i64 d0, .int .i64 d1] 23)).cell? ⟨w5.heap.size + 1, 0, none⟩ = some (.int .i64 d0) := (cell_alloc (cell_alloc k19 _) _)
  replace k20 : ((w6.alloc (.cells #[.int .i64 c0, .int .i64 c1] 23)).alloc (.cells #[.int .i64 d0, .int .i64 d1] 23)).cell? ⟨w5.heap.size + 1, 1, none⟩ = some (.int .i64 d1) := (cell_alloc (cell_alloc k20 _) _)
  have k21 : ((w6.alloc (.cells #[.int .i64 c0, .int .i64 c1] 23)).alloc (.cells #[.int .i64 d0, .int .i64 d1] 23)).cell? ⟨w6.heap.size, 0, none⟩ = some (.int .i64 c0) := (cell_alloc (cbx w6 #[.int .i64 c0, .int .i64 c1] 23 (w6.heap.size) 0 (.int .i64 c0) (by simp) rfl) _)
  have k22 : ((w6.alloc (.cells #[.int .i64 c0, .int .i64 c1] 23)).alloc (.cells #[.int .i64 d0, .int .i64 d1] 23)).cell? ⟨w6.heap.size, 1, none⟩ = some (.int .i64 c1) := (cell_alloc (cbx w6 #[.int .i64 c0, .int .i64 c1] 23 (w6.heap.size) 1 (.int .i64 c1) (by simp) rfl) _)
  have k23 : ((w6.alloc (.cells #[.int .i64 c0, .int .i64 c1] 23)).alloc (.cells #[.int .i64 d0, .int .i64 d1] 23)).cell? ⟨w6.heap.size + 1, 0, none⟩ = some (.int .i64 d0) := (cbx (w6.alloc (.cells #[.int .i64 c0, .int .i64 c1] 23)) #[.int .i64 d0, .int .i64 d1] 23 (w6.heap.size + 1) 0 (.int .i64 d0) (by simp) rfl)
  have k24 : ((w6.alloc (.cells #[.int .i64 c0, .int .i64 c1] 23)).alloc (.cells #[.int .i64 d0, .int .i64 d1] 23)).cell? ⟨w6.heap.size + 1, 1, none⟩ = some (.int .i64 d1) := (cbx (w6.alloc (.cells #[.int .i64 c0, .int .i64 c1] 23)) #[.int .i64 d0, .int .i64 d1] 23 (w6.heap.size + 1) 1 (.int .i64 d1) (by simp) rfl)
  replace hB : Below w.heap.size w ((w6.alloc (.cells #[.int .i64 c0, .int .i64 c1] 23)).alloc (.cells #[.int .i64 d0, .int .i64 d1] 23)) := (belA (belA hB _) _)
  generalize ((w6.alloc (.cells #[.int .i64 c0, .int .i64 c1] 23)).alloc (.cells #[.int .i64 d0, .int .i64 d1] 23)) = v9 at *
  have zk1 : w.heap.size < v9.heap.size := World.block_lt_of_cell? v9 _ k1
  have zk9 : w2.heap.size < v9.heap.size := World.block_lt_of_cell? v9 _ k9
  have zk17 : w5.heap.size < v9.heap.size := World.block_lt_of_cell? v9 _ k17
  have zk19 : w5.heap.size + 1 < v9.heap.size := World.block_lt_of_cell? v9 _ k19
  have zk21 : w6.heap.size < v9.heap.size := World.block_lt_of_cell? v9 _ k21
  have zk23 : w6.heap.size + 1 < v9.heap.size := World.block_lt_of_cell? v9 _ k23
  obtain ⟨sp, hsp⟩ : ∃ sp : Told, sp = [none, none, none, none, none, none, none, none, some (.inl (.bool true)), none, none, none, none, none, none, none, none, none, none, none, none, none, none, none, none, none, none, none, none, none, none, none, none, none, none, some (.inl (.bool true)), some (.inl (.bool true)), some (.inl (.pointer (some ⟨w.heap.size, 0, none⟩))), some (.inl (.agg #[.int .i64 x0, .int .i64 x1])), some (.inl (.pointer (some ⟨w.heap.size, 2, none⟩))), some (.inl (.agg #[.int .i64 x2, .int .i64 x3])), some (.inl (.agg #[.int .i64 s0, .int .i64 s1])), some (.inl (.pointer (some ⟨w.heap.size, 0, none⟩))), some (.inl (.agg #[.int .i64 x0, .int .i64 x1])), some (.inl (.pointer (some ⟨w.heap.size, 2, none⟩))), some (.inl (.agg #[.int .i64 x2, .int .i64 x3])), some (.inl (.agg #[.int .i64 s0, .int .i64 s1])), some (.inl (.bool true)), some (.inl (.bool true)), some (.inl (.bool true)), some (.inl (.pointer (some ⟨w.heap.size, 0, none⟩))), some (.inl (.agg #[.int .i64 x0, .int .i64 x1])), some (.inl (.pointer (some ⟨w.heap.size, 2, none⟩))), some (.inl (.agg #[.int .i64 x2, .int .i64 x3])), some (.inl (.agg #[.int .i64 t0, .int .i64 t1])), some (.inl (.pointer (some ⟨w.heap.size, 0, none⟩))), some (.inl (.agg #[.int .i64 x0, .int .i64 x1])), some (.inl (.pointer (some ⟨w.heap.size, 2, none⟩))), some (.inl (.agg #[.int .i64 x2, .int .i64 x3])), some (.inl (.agg #[.int .i64 t0, .int .i64 t1])), some (.inl (.bool true)), some (.inl (.bool true)), some (.inl (.bool true)), some (.inl (.pointer (some ⟨w2.heap.size, 0, none⟩))), some (.inl (.agg #[.int .i64 y0, .int .i64 y1])), some (.inl (.pointer (some ⟨w2.heap.size, 2, none⟩))), some (.inl (.agg #[.int .i64 y2, .int .i64 y3])), some (.inl (.pointer (some ⟨w2.heap.size, 4, none⟩))), some (.inl (.agg #[.int .i64 y4, .int .i64 y5])), some (.inl (.int .i64 o1)), some (.inl (.pointer (some ⟨w2.heap.size, 0, none⟩))), some (.inl (.agg #[.int .i64 y0, .int .i64 y1])), some (.inl (.pointer (some ⟨w2.heap.size, 2, none⟩))), some (.inl (.agg #[.int .i64 y2, .int .i64 y3])), some (.inl (.pointer (some ⟨w2.heap.size, 4, none⟩))), some (.inl (.agg #[.int .i64 y4, .int .i64 y5])), some (.inl (.int .i64 o1)), some (.inl (.bool true)), some (.inl (.bool true)), some (.inl (.bool true)), some (.inl (.pointer (some ⟨w2.heap.size, 0, none⟩))), some (.inl (.agg #[.int .i64 y0, .int .i64 y1])), some (.inl (.pointer (some ⟨w2.heap.size, 2, none⟩))), some (.inl (.agg #[.int .i64 y2, .int .i64 y3])), some (.inl (.pointer (some ⟨w2.heap.size, 4, none⟩))), some (.inl (.agg #[.int .i64 y4, .int .i64 y5])), some (.inl (.bool o2)), some (.inl (.pointer (some ⟨w2.heap.size, 0, none⟩))), some (.inl (.agg #[.int .i64 y0, .int .i64 y1])), some (.inl (.pointer (some ⟨w2.heap.size, 2, none⟩))), some (.inl (.agg #[.int .i64 y2, .int .i64 y3])), some (.inl (.pointer (some ⟨w2.heap.size, 4, none⟩))), some (.inl (.agg #[.int .i64 y4, .int .i64 y5])), some (.inl (.bool o2)), some (.inl (.bool true)), some (.inl (.bool true)), some (.inl (.bool true)), some (.inl (.pointer (some ⟨w2.heap.size, 0, none⟩))), some (.inl (.agg #[.int .i64 y0, .int .i64 y1])), some (.inl (.pointer (some ⟨w2.heap.size, 2, none⟩))), some (.inl (.agg #[.int .i64 y2, .int .i64 y3])), some (.inl (.pointer (some ⟨w2.heap.size, 4, none⟩))), some (.inl (.agg #[.int .i64 y4, .int .i64 y5])), some (.inl (.pointer (some ⟨w2.heap.size, 6, none⟩))), some (.inl (.agg #[.int .i64 y6, .int .i64 y7])), some (.inl (.bool o3)), some (.inl (.pointer (some ⟨w2.heap.size, 0, none⟩))), some (.inl (.agg #[.int .i64 y0, .int .i64 y1])), some (.inl (.pointer (some ⟨w2.heap.size, 2, none⟩))), some (.inl (.agg #[.int .i64 y2, .int .i64 y3])), some (.inl (.pointer (some ⟨w2.heap.size, 4, none⟩))), some (.inl (.agg #[.int .i64 y4, .int .i64 y5])), some (.inl (.pointer (some ⟨w2.heap.size, 6, none⟩))), some (.inl (.agg #[.int .i64 y6, .int .i64 y7])), some (.inl (.bool o3)), some (.inl (.bool true)), some (.inl (.bool true)), some (.inl (.bool true)), some (.inl (.agg #[.int .i64 c0, .int .i64 c1])), some (.inl (.agg #[.int .i64 c0, .int .i64 c1])), some (.inl (.bool true)), some (.inl (.bool true)), some (.inl (.bool true)), some (.inl (.agg #[.int .i64 d0, .int .i64 d1])), some (.inl (.agg #[.int .i64 d0, .int .i64 d1])), some (.inl (.bool true)), some (.inl (.bool true)), some (.inl (.bool true)), some (.inl (.slice ra0 u.length rc0)), some (.inl (.slice rb0 v.length rd0)), some (.inl (.int .i64 o4)), some (.inl (.slice ra0 u.length rc0)), some (.inl (.slice rb0 v.length rd0)), some (.inl (.int .i64 o4)), some (.inl (.bool true)), some (.inl (.bool true))] := ⟨_, rfl⟩
  have s8 : sp.getD 8 none = some (.inl (.bool true)) := by rw [hsp]; rfl
  have s35 : sp.getD 35 none = some (.inl (.bool true)) := by rw [hsp]; rfl
  have s36 : sp.getD 36 none = some (.inl (.bool true)) := by rw [hsp]; rfl
  have s37 : sp.getD 37 none = some (.inl (.pointer (some ⟨w.heap.size, 0, none⟩))) := by rw [hsp]; rfl
  have s38 : sp.getD 38 none = some (.inl (.agg #[.int .i64 x0, .int .i64 x1])) := by rw [hsp]; rfl
  have s39 : sp.getD 39 none = some (.inl (.pointer (some ⟨w.heap.size, 2, none⟩))) := by rw [hsp]; rfl
  have s40 : sp.getD 40 none = some (.inl (.agg #[.int .i64 x2, .int .i64 x3])) := by rw [hsp]; rfl
  have s41 : sp.getD 41 none = some (.inl (.agg #[.int .i64 s0, .int .i64 s1])) := by rw [hsp]; rfl
  have s42 : sp.getD 42 none = some (.inl (.pointer (some ⟨w.heap.size, 0, none⟩))) := by rw [hsp]; rfl
  have s43 : sp.getD 43 none = some (.inl (.agg #[.int .i64 x0, .int .i64 x1])) := by rw [hsp]; rfl
  have s44 : sp.getD 44 none = some (.inl (.pointer (some ⟨w.heap.size, 2, none⟩))) := by rw [hsp]; rfl
  have s45 : sp.getD 45 none = some (.inl (.agg #[.int .i64 x2, .int .i64 x3])) := by rw [hsp]; rfl
  have s46 : sp.getD 46 none = some (.inl (.agg #[.int .i64 s0, .int .i64 s1])) := by rw [hsp]; rfl
  have s47 : sp.getD 47 none = some (.inl (.bool true)) := by rw [hsp]; rfl
  have s48 : sp.getD 48 none = some (.inl (.bool true)) := by rw [hsp]; rfl
  have s49 : sp.getD 49 none = some (.inl (.bool true)) := by rw [hsp]; rfl
  have s50 : sp.getD 50 none = some (.inl (.pointer (some ⟨w.heap.size, 0, none⟩))) := by rw [hsp]; rfl
  have s51 : sp.getD 51 none = some (.inl (.agg #[.int .i64 x0, .int .i64 x1])) := by rw [hsp]; rfl
  have s52 : sp.getD 52 none = some (.inl (.pointer (some ⟨w.heap.size, 2, none⟩))) := by rw [hsp]; rfl
  have s53 : sp.getD 53 none = some (.inl (.agg #[.int .i64 x2, .int .i64 x3])) := by rw [hsp]; rfl
  have s54 : sp.getD 54 none = some (.inl (.agg #[.int .i64 t0, .int .i64 t1])) := by rw [hsp]; rfl
  have s55 : sp.getD 55 none = some (.inl (.pointer (some ⟨w.heap.size, 0, none⟩))) := by rw [hsp]; rfl
  have s56 : sp.getD 56 none = some (.inl (.agg #[.int .i64 x0, .int .i64 x1])) := by rw [hsp]; rfl
  have s57 : sp.getD 57 none = some (.inl (.pointer (some ⟨w.heap.size, 2, none⟩))) := by rw [hsp]; rfl
  have s58 : sp.getD 58 none = some (.inl (.agg #[.int .i64 x2, .int .i64 x3])) := by rw [hsp]; rfl
  have s59 : sp.getD 59 none = some (.inl (.agg #[.int .i64 t0, .int .i64 t1])) := by rw [hsp]; rfl
  have s60 : sp.getD 60 none = some (.inl (.bool true)) := by rw [hsp]; rfl
  have s61 : sp.getD 61 none = some (.inl (.bool true)) := by rw [hsp]; rfl
  have s62 : sp.getD 62 none = some (.inl (.bool true)) := by rw [hsp]; rfl
  have s63 : sp.getD 63 none = some (.inl (.pointer (some ⟨w2.heap.size, 0, none⟩))) := by rw [hsp]; rfl
  have s64 : sp.getD 64 none = some (.inl (.agg #[.int .i64 y0, .int .i64 y1])) := by rw [hsp]; rfl
  have s65 : sp.getD 65 none = some (.inl (.pointer (some ⟨w2.heap.size, 2, none⟩))) := by rw [hsp]; rfl
  have s66 : sp.getD 66 none = some (.inl (.agg #[.int .i64 y2, .int .i64 y3])) := by rw [hsp]; rfl
  have s67 : sp.getD 67 none = some (.inl (.pointer (some ⟨w2.heap.size, 4, none⟩))) := by rw [hsp]; rfl
  have s68 : sp.getD 68 none = some (.inl (.agg #[.int .i64 y4, .int .i64 y5])) := by rw [hsp]; rfl
  have s69 : sp.getD 69 none = some (.inl (.int .i64 o1)) := by rw [hsp]; rfl
  have s70 : sp.getD 70 none = some (.inl (.pointer (some ⟨w2.heap.size, 0, none⟩))) := by rw [hsp]; rfl
  have s71 : sp.getD 71 none = some (.inl (.agg #[.int .i64 y0, .int .i64 y1])) := by rw [hsp]; rfl
  have s72 : sp.getD 72 none = some (.inl (.pointer (some ⟨w2.heap.size, 2, none⟩))) := by rw [hsp]; rfl
  have s73 : sp.getD 73 none = some (.inl (.agg #[.int .i64 y2, .int .i64 y3])) := by rw [hsp]; rfl
  have s74 : sp.getD 74 none = some (.inl (.pointer (some ⟨w2.heap.size, 4, none⟩))) := by rw [hsp]; rfl
  have s75 : sp.getD 75 none = some (.inl (.agg #[.int .i64 y4, .int .i64 y5])) := by rw [hsp]; rfl
  have s76 : sp.getD 76 none = some (.inl (.int .i64 o1)) := by rw [hsp]; rfl
  have s77 : sp.getD 77 none = some (.inl (.bool true)) := by rw [hsp]; rfl
  have s78 : sp.getD 78 none = some (.inl (.bool true)) := by rw [hsp]; rfl
  have s79 : sp.getD 79 none = some (.inl (.bool true)) := by rw [hsp]; rfl
  have s80 : sp.getD 80 none = some (.inl (.pointer (some ⟨w2.heap.size, 0, none⟩))) := by rw [hsp]; rfl
  have s81 : sp.getD 81 none = some (.inl (.agg #[.int .i64 y0, .int .i64 y1])) := by rw [hsp]; rfl
  have s82 : sp.getD 82 none = some (.inl (.pointer (some ⟨w2.heap.size, 2, none⟩))) := by rw [hsp]; rfl
  have s83 : sp.getD 83 none = some (.inl (.agg #[.int .i64 y2, .int .i64 y3])) := by rw [hsp]; rfl
  have s84 : sp.getD 84 none = some (.inl (.pointer (some ⟨w2.heap.size, 4, none⟩))) := by rw [hsp]; rfl
  have s85 : sp.getD 85 none = some (.inl (.agg #[.int .i64 y4, .int .i64 y5])) := by rw [hsp]; rfl
  have s86 : sp.getD 86 none = some (.inl (.bool o2)) := by rw [hsp]; rfl
  have s87 : sp.getD 87 none = some (.inl (.pointer (some ⟨w2.heap.size, 0, none⟩))) := by rw [hsp]; rfl
  have s88 : sp.getD 88 none = some (.inl (.agg #[.int .i64 y0, .int .i64 y1])) := by rw [hsp]; rfl
  have s89 : sp.getD 89 none = some (.inl (.pointer (some ⟨w2.heap.size, 2, none⟩))) := by rw [hsp]; rfl
  have s90 : sp.getD 90 none = some (.inl (.agg #[.int .i64 y2, .int .i64 y3])) := by rw [hsp]; rfl
  have s91 : sp.getD 91 none = some (.inl (.pointer (some ⟨w2.heap.size, 4, none⟩))) := by rw [hsp]; rfl
  have s92 : sp.getD 92 none = some (.inl (.agg #[.int .i64 y4, .int .i64 y5])) := by rw [hsp]; rfl
  have s93 : sp.getD 93 none = some (.inl (.bool o2)) := by rw [hsp]; rfl
  have s94 : sp.getD 94 none = some (.inl (.bool true)) := by rw [hsp]; rfl
  have s95 : sp.getD 95 none = some (.inl (.bool true)) := by rw [hsp]; rfl
  have s96 : sp.getD 96 none = some (.inl (.bool true)) := by rw [hsp]; rfl
  have s97 : sp.getD 97 none = some (.inl (.pointer (some ⟨w2.heap.size, 0, none⟩))) := by rw [hsp]; rfl
  have s98 : sp.getD 98 none = some (.inl (.agg #[.int .i64 y0, .int .i64 y1])) := by rw [hsp]; rfl
  have s99 : sp.getD 99 none = some (.inl (.pointer (some ⟨w2.heap.size, 2, none⟩))) := by rw [hsp]; rfl
  have s100 : sp.getD 100 none = some (.inl (.agg #[.int .i64 y2, .int .i64 y3])) := by rw [hsp]; rfl
  have s101 : sp.getD 101 none = some (.inl (.pointer (some ⟨w2.heap.size, 4, none⟩))) := by rw [hsp]; rfl
  have s102 : sp.getD 102 none = some (.inl (.agg #[.int .i64 y4, .int .i64 y5])) := by rw [hsp]; rfl
  have s103 : sp.getD 103 none = some (.inl (.pointer (some ⟨w2.heap.size, 6, none⟩))) := by rw [hsp]; rfl
  have s104 : sp.getD 104 none = some (.inl (.agg #[.int .i64 y6, .int .i64 y7])) := by rw [hsp]; rfl
  have s105 : sp.getD 105 none = some (.inl (.bool o3)) := by rw [hsp]; rfl
  have s106 : sp.getD 106 none = some (.inl (.pointer (some ⟨w2.heap.size, 0, none⟩))) := by rw [hsp]; rfl
  have s107 : sp.getD 107 none = some (.inl (.agg #[.int .i64 y0, .int .i64 y1])) := by rw [hsp]; rfl
  have s108 : sp.getD 108 none = some (.inl (.pointer (some ⟨w2.heap.size, 2, none⟩))) := by rw [hsp]; rfl
  have s109 : sp.getD 109 none = some (.inl (.agg #[.int .i64 y2, .int .i64 y3])) := by rw [hsp]; rfl
  have s110 : sp.getD 110 none = some (.inl (.pointer (some ⟨w2.heap.size, 4, none⟩))) := by rw [hsp]; rfl
  have s111 : sp.getD 111 none = some (.inl (.agg #[.int .i64 y4, .int .i64 y5])) := by rw [hsp]; rfl
  have s112 : sp.getD 112 none = some (.inl (.pointer (some ⟨w2.heap.size, 6, none⟩))) := by rw [hsp]; rfl
  have s113 : sp.getD 113 none = some (.inl (.agg #[.int .i64 y6, .int .i64 y7])) := by rw [hsp]; rfl
  have s114 : sp.getD 114 none = some (.inl (.bool o3)) := by rw [hsp]; rfl
  have s115 : sp.getD 115 none = some (.inl (.bool true)) := by rw [hsp]; rfl
  have s116 : sp.getD 116 none = some (.inl (.bool true)) := by rw [hsp]; rfl
  have s117 : sp.getD 117 none = some (.inl (.bool true)) := by rw [hsp]; rfl
  have s118 : sp.getD 118 none = some (.inl (.agg #[.int .i64 c0, .int .i64 c1])) := by rw [hsp]; rfl
  have s119 : sp.getD 119 none = some (.inl (.agg #[.int .i64 c0, .int .i64 c1])) := by rw [hsp]; rfl
  have s120 : sp.getD 120 none = some (.inl (.bool true)) := by rw [hsp]; rfl
  have s121 : sp.getD 121 none = some (.inl (.bool true)) := by rw [hsp]; rfl
  have s122 : sp.getD 122 none = some (.inl (.bool true)) := by rw [hsp]; rfl
  have s123 : sp.getD 123 none = some (.inl (.agg #[.int .i64 d0, .int .i64 d1])) := by rw [hsp]; rfl
  have s124 : sp.getD 124 none = some (.inl (.agg #[.int .i64 d0, .int .i64 d1])) := by rw [hsp]; rfl
  have s125 : sp.getD 125 none = some (.inl (.bool true)) := by rw [hsp]; rfl
  have s126 : sp.getD 126 none = some (.inl (.bool true)) := by rw [hsp]; rfl
  have s127 : sp.getD 127 none = some (.inl (.bool true)) := by rw [hsp]; rfl
  have s128 : sp.getD 128 none = some (.inl (.slice ra0 u.length rc0)) := by rw [hsp]; rfl
  have s129 : sp.getD 129 none = some (.inl (.slice rb0 v.length rd0)) := by rw [hsp]; rfl
  have s130 : sp.getD 130 none = some (.inl (.int .i64 o4)) := by rw [hsp]; rfl
  have s131 : sp.getD 131 none = some (.inl (.slice ra0 u.length rc0)) := by rw [hsp]; rfl
  have s132 : sp.getD 132 none = some (.inl (.slice rb0 v.length rd0)) := by rw [hsp]; rfl
  have s133 : sp.getD 133 none = some (.inl (.int .i64 o4)) := by rw [hsp]; rfl
  have s134 : sp.getD 134 none = some (.inl (.bool true)) := by rw [hsp]; rfl
  have s135 : sp.getD 135 none = some (.inl (.bool true)) := by rw [hsp]; rfl
  clear hsp
  refine region_obs sp (by kernel_rfl) (by kernel_rfl) ?_ ?_
  · rw [List.toList_toArray]
    refine obs_cons ?_ ?_
    · intro T wx K hB hF hD hK
      have g9 : T[9]? = some (.bool true) := hF 9 (free_of (by kernel_rfl))
      refine ob_yes (wanted_none rfl) ?_
      clear hF hD
      go_simp
      exact hK _ _ (Below.refl _ _) (rt_eq s35)
    refine obs_cons ?_ ?_
    · intro T wx K hB hF hD hK
      have g35 := get_eq (hD 0 35 (by simp [Region.binds]) (by kernel_rfl)) s35
      refine ob_yes (wanted_none rfl) ?_
      clear hF hD
      go_simp
      exact hK _ _ (Below.refl _ _) (rt_eq s36)
    refine obs_cons ?_ ?_
    · intro T wx K hB hF hD hK
      have g36 := get_eq (hD 1 36 (by simp [Region.binds]) (by kernel_rfl)) s36
      have g4 : T[4]? = some (.pointer (some ⟨w.heap.size, 0, none⟩)) := hF 4 (free_of (by kernel_rfl))
      refine ob_yes (wanted_yes rfl (by kernel_rfl) g36) ?_
      clear hF hD
      go_simp
      exact hK _ _ (Below.refl _ _) (rt_eq s37)
    refine obs_cons ?_ ?_
    · intro T wx K hB hF hD hK
      have g36 := get_eq (hD 1 36 (by simp [Region.binds]) (by kernel_rfl)) s36
      have g37 := get_eq (hD 2 37 (by simp [Region.binds]) (by kernel_rfl)) s37
      refine ob_yes (wanted_yes rfl (by kernel_rfl) g36) ?_
      clear hF hD
      have c0 := cell_call k1 hB
      have c1 := cell_call k2 hB
      go_simp
      exact hK _ _ (Below.refl _ _) (rt_eq s38)
    refine obs_cons ?_ ?_
    · intro T wx K hB hF hD hK
      have g36 := get_eq (hD 1 36 (by simp [Region.binds]) (by kernel_rfl)) s36
      have g4 : T[4]? = some (.pointer (some ⟨w.heap.size, 0, none⟩)) := hF 4 (free_of (by kernel_rfl))
      refine ob_yes (wanted_yes rfl (by kernel_rfl) g36) ?_
      clear hF hD
      go_simp
      exact hK _ _ (Below.refl _ _) (rt_eq s39)
    refine obs_cons ?_ ?_
    · intro T wx K hB hF hD hK
      have g36 := get_eq (hD 1 36 (by simp [Region.binds]) (by kernel_rfl)) s36
      have g39 := get_eq (hD 4 39 (by simp [Region.binds]) (by kernel_rfl)) s39
      refine ob_yes (wanted_yes rfl (by kernel_rfl) g36) ?_
      clear hF hD
      have c0 := cell_call k3 hB
      have c1 := cell_call k4 hB
      go_simp
      exact hK _ _ (Below.refl _ _) (rt_eq s40)
    refine obs_cons ?_ ?_
    · intro T wx K hB hF hD hK
      have g36 := get_eq (hD 1 36 (by simp [Region.binds]) (by kernel_rfl)) s36
      have g38 := get_eq (hD 3 38 (by simp [Region.binds]) (by kernel_rfl)) s38
      have g40 := get_eq (hD 5 40 (by simp [Region.binds]) (by kernel_rfl)) s40
      refine ob_yes (wanted_yes rfl (by kernel_rfl) g36) ?_
      clear hF hD
      go_simp
      refine (add_r x0 x1 x2 x3 s0 s1 _ HS0 HS1).mono ?_; rintro e w9 ⟨rfl, hb⟩
      exact hK _ _ hb (rt_eq s41)
    refine obs_cons ?_ ?_
    · intro T wx K hB hF hD hK
      have g36 := get_eq (hD 1 36 (by simp [Region.binds]) (by kernel_rfl)) s36
      have g4 : T[4]? = some (.pointer (some ⟨w.heap.size, 0, none⟩)) := hF 4 (free_of (by kernel_rfl))
      refine ob_yes (wanted_yes rfl (by kernel_rfl) g36) ?_
      clear hF hD
      go_simp
      exact hK _ _ (Below.refl _ _) (rt_eq s42)
    refine obs_cons ?_ ?_
    · intro T wx K hB hF hD hK
      have g36 := get_eq (hD 1 36 (by simp [Region.binds]) (by kernel_rfl)) s36
      have g42 := get_eq (hD 7 42 (by simp [Region.binds]) (by kernel_rfl)) s42
      refine ob_yes (wanted_yes rfl (by kernel_rfl) g36) ?_
      clear hF hD
      have c0 := cell_call k1 hB
      have c1 := cell_call k2 hB
      go_simp
      exact hK _ _ (Below.refl _ _) (rt_eq s43)
    refine obs_cons ?_ ?_
    · intro T wx K hB hF hD hK
      have g36 := get_eq (hD 1 36 (by simp [Region.binds]) (by kernel_rfl)) s36
      have g4 : T[4]? = some (.pointer (some ⟨w.heap.size, 0, none⟩)) := hF 4 (free_of (by kernel_rfl))
      refine ob_yes (wanted_yes rfl (by kernel_rfl) g36) ?_
      clear hF hD
      go_simp
      exact hK _ _ (Below.refl _ _) (rt_eq s44)
    refine obs_cons ?_ ?_
    · intro T wx K hB hF hD hK
      have g36 := get_eq (hD 1 36 (by simp [Region.binds]) (by kernel_rfl)) s36
      have g44 := get_eq (hD 9 44 (by simp [Region.binds]) (by kernel_rfl)) s44
      refine ob_yes (wanted_yes rfl (by kernel_rfl) g36) ?_
      clear hF hD
      have c0 := cell_call k3 hB
      have c1 := cell_call k4 hB
      go_simp
      exact hK _ _ (Below.refl _ _) (rt_eq s45)
    refine obs_cons ?_ ?_
    · intro T wx K hB hF hD hK
      have g36 := get_eq (hD 1 36 (by simp [Region.binds]) (by kernel_rfl)) s36
      have g43 := get_eq (hD 8 43 (by simp [Region.binds]) (by kernel_rfl)) s43
      have g45 := get_eq (hD 10 45 (by simp [Region.binds]) (by kernel_rfl)) s45
      refine ob_yes (wanted_yes rfl (by kernel_rfl) g36) ?_
      clear hF hD
      go_simp
      refine (radd_r x0 x1 x2 x3 s0 s1 _ HS0 HS1).mono ?_; rintro e w9 ⟨rfl, hb⟩
      exact hK _ _ hb (rt_eq s46)
    refine obs_cons ?_ ?_
    · intro T wx K hB hF hD hK
      have g36 := get_eq (hD 1 36 (by simp [Region.binds]) (by kernel_rfl)) s36
      have g41 := get_eq (hD 6 41 (by simp [Region.binds]) (by kernel_rfl)) s41
      have g46 := get_eq (hD 11 46 (by simp [Region.binds]) (by kernel_rfl)) s46
      refine ob_yes (wanted_yes rfl (by kernel_rfl) g36) ?_
      clear hF hD
      go_simp
      exact hK _ _ (Below.refl _ _) (rt_eq s47)
    refine obs_cons ?_ ?_
    · intro T wx K hB hF hD hK
      have g36 := get_eq (hD 1 36 (by simp [Region.binds]) (by kernel_rfl)) s36
      have g47 := get_eq (hD 12 47 (by simp [Region.binds]) (by kernel_rfl)) s47
      refine ob_yes (wanted_none rfl) ?_
      clear hF hD
      go_simp
      exact hK _ _ (Below.refl _ _) (rt_eq s48)
    refine obs_cons ?_ ?_
    · intro T wx K hB hF hD hK
      have g48 := get_eq (hD 13 48 (by simp [Region.binds]) (by kernel_rfl)) s48
      refine ob_yes (wanted_none rfl) ?_
      clear hF hD
      go_simp
      exact hK _ _ (Below.refl _ _) (rt_eq s49)
    refine obs_cons ?_ ?_
    · intro T wx K hB hF hD hK
      have g49 := get_eq (hD 14 49 (by simp [Region.binds]) (by kernel_rfl)) s49
      have g4 : T[4]? = some (.pointer (some ⟨w.heap.size, 0, none⟩)) := hF 4 (free_of (by kernel_rfl))
      refine ob_yes (wanted_yes rfl (by kernel_rfl) g49) ?_
      clear hF hD
      go_simp
      exact hK _ _ (Below.refl _ _) (rt_eq s50)
    refine obs_cons ?_ ?_
    · intro T wx K hB hF hD hK
      have g49 := get_eq (hD 14 49 (by simp [Region.binds]) (by kernel_rfl)) s49
      have g50 := get_eq (hD 15 50 (by simp [Region.binds]) (by kernel_rfl)) s50
      refine ob_yes (wanted_yes rfl (by kernel_rfl) g49) ?_
      clear hF hD
      have c0 := cell_call k1 hB
      have c1 := cell_call k2 hB
      go_simp
      exact hK _ _ (Below.refl _ _) (rt_eq s51)
    refine obs_cons ?_ ?_
    · intro T wx K hB hF hD hK
      have g49 := get_eq (hD 14 49 (by simp [Region.binds]) (by kernel_rfl)) s49
      have g4 : T[4]? = some (.pointer (some ⟨w.heap.size, 0, none⟩)) := hF 4 (free_of (by kernel_rfl))
      refine ob_yes (wanted_yes rfl (by kernel_rfl) g49) ?_
      clear hF hD
      go_simp
      exact hK _ _ (Below.refl _ _) (rt_eq s52)
    refine obs_cons ?_ ?_
    · intro T wx K hB hF hD hK
      have g49 := get_eq (hD 14 49 (by simp [Region.binds]) (by kernel_rfl)) s49
      have g52 := get_eq (hD 17 52 (by simp [Region.binds]) (by kernel_rfl)) s52
      refine ob_yes (wanted_yes rfl (by kernel_rfl) g49) ?_
      clear hF hD
      have c0 := cell_call k3 hB
      have c1 := cell_call k4 hB
      go_simp
      exact hK _ _ (Below.refl _ _) (rt_eq s53)
    refine obs_cons ?_ ?_
    · intro T wx K hB hF hD hK
      have g49 := get_eq (hD 14 49 (by simp [Region.binds]) (by kernel_rfl)) s49
      have g51 := get_eq (hD 16 51 (by simp [Region.binds]) (by kernel_rfl)) s51
      have g53 := get_eq (hD 18 53 (by simp [Region.binds]) (by kernel_rfl)) s53
      refine ob_yes (wanted_yes rfl (by kernel_rfl) g49) ?_
      clear hF hD
      go_simp
      refine (sub_r x0 x1 x2 x3 t0 t1 _ HT0 HT1).mono ?_; rintro e w9 ⟨rfl, hb⟩
      exact hK _ _ hb (rt_eq s54)
    refine obs_cons ?_ ?_
    · intro T wx K hB hF hD hK
      have g49 := get_eq (hD 14 49 (by simp [Region.binds]) (by kernel_rfl)) s49
      have g4 : T[4]? = some (.pointer (some ⟨w.heap.size, 0, none⟩)) := hF 4 (free_of (by kernel_rfl))
      refine ob_yes (wanted_yes rfl (by kernel_rfl) g49) ?_
      clear hF hD
      go_simp
      exact hK _ _ (Below.refl _ _) (rt_eq s55)
    refine obs_cons ?_ ?_
    · intro T wx K hB hF hD hK
      have g49 := get_eq (hD 14 49 (by simp [Region.binds]) (by kernel_rfl)) s49
      have g55 := get_eq (hD 20 55 (by simp [Region.binds]) (by kernel_rfl)) s55
      refine ob_yes (wanted_yes rfl (by kernel_rfl) g49) ?_
      clear hF hD
      have c0 := cell_call k1 hB
      have c1 := cell_call k2 hB
      go_simp
      exact hK _ _ (Below.refl _ _) (rt_eq s56)
    refine obs_cons ?_ ?_
    · intro T wx K hB hF hD hK
      have g49 := get_eq (hD 14 49 (by simp [Region.binds]) (by kernel_rfl)) s49
      have g4 : T[4]? = some (.pointer (some ⟨w.heap.size, 0, none⟩)) := hF 4 (free_of (by kernel_rfl))
      refine ob_yes (wanted_yes rfl (by kernel_rfl) g49) ?_
      clear hF hD
      go_simp
      exact hK _ _ (Below.refl _ _) (rt_eq s57)
    refine obs_cons ?_ ?_
    · intro T wx K hB hF hD hK
      have g49 := get_eq (hD 14 49 (by simp [Region.binds]) (by kernel_rfl)) s49
      have g57 := get_eq (hD 22 57 (by simp [Region.binds]) (by kernel_rfl)) s57
      refine ob_yes (wanted_yes rfl (by kernel_rfl) g49) ?_
      clear hF hD
      have c0 := cell_call k3 hB
      have c1 := cell_call k4 hB
      go_simp
      exact hK _ _ (Below.refl _ _) (rt_eq s58)
    refine obs_cons ?_ ?_
    · intro T wx K hB hF hD hK
      have g49 := get_eq (hD 14 49 (by simp [Region.binds]) (by kernel_rfl)) s49
      have g56 := get_eq (hD 21 56 (by simp [Region.binds]) (by kernel_rfl)) s56
      have g58 := get_eq (hD 23 58 (by simp [Region.binds]) (by kernel_rfl)) s58
      refine ob_yes (wanted_yes rfl (by kernel_rfl) g49) ?_
      clear hF hD
      go_simp
      refine (rsub_r x0 x1 x2 x3 t0 t1 _ HT0 HT1).mono ?_; rintro e w9 ⟨rfl, hb⟩
      exact hK _ _ hb (rt_eq s59)
    refine obs_cons ?_ ?_
    · intro T wx K hB hF hD hK
      have g49 := get_eq (hD 14 49 (by simp [Region.binds]) (by kernel_rfl)) s49
      have g54 := get_eq (hD 19 54 (by simp [Region.binds]) (by kernel_rfl)) s54
      have g59 := get_eq (hD 24 59 (by simp [Region.binds]) (by kernel_rfl)) s59
      refine ob_yes (wanted_yes rfl (by kernel_rfl) g49) ?_
      clear hF hD
      go_simp
      exact hK _ _ (Below.refl _ _) (rt_eq s60)
    refine obs_cons ?_ ?_
    · intro T wx K hB hF hD hK
      have g49 := get_eq (hD 14 49 (by simp [Region.binds]) (by kernel_rfl)) s49
      have g60 := get_eq (hD 25 60 (by simp [Region.binds]) (by kernel_rfl)) s60
      refine ob_yes (wanted_none rfl) ?_
      clear hF hD
      go_simp
      exact hK _ _ (Below.refl _ _) (rt_eq s61)
    refine obs_cons ?_ ?_
    · intro T wx K hB hF hD hK
      have g61 := get_eq (hD 26 61 (by simp [Region.binds]) (by kernel_rfl)) s61
      refine ob_yes (wanted_none rfl) ?_
      clear hF hD
      go_simp
      exact hK _ _ (Below.refl _ _) (rt_eq s62)
    refine obs_cons ?_ ?_
    · intro T wx K hB hF hD hK
      have g62 := get_eq (hD 27 62 (by simp [Region.binds]) (by kernel_rfl)) s62
      have g10 : T[10]? = some (.pointer (some ⟨w2.heap.size, 0, none⟩)) := hF 10 (free_of (by kernel_rfl))
      refine ob_yes (wanted_yes rfl (by kernel_rfl) g62) ?_
      clear hF hD
      go_simp
      exact hK _ _ (Below.refl _ _) (rt_eq s63)
    refine obs_cons ?_ ?_
    · intro T wx K hB hF hD hK
      have g62 := get_eq (hD 27 62 (by simp [Region.binds]) (by kernel_rfl)) s62
      have g63 := get_eq (hD 28 63 (by simp [Region.binds]) (by kernel_rfl)) s63
      refine ob_yes (wanted_yes rfl (by kernel_rfl) g62) ?_
      clear hF hD
      have c0 := cell_call k9 hB
      have c1 := cell_call k10 hB
      go_simp
      exact hK _ _ (Below.refl _ _) (rt_eq s64)
    refine obs_cons ?_ ?_
    · intro T wx K hB hF hD hK
      have g62 := get_eq (hD 27 62 (by simp [Region.binds]) (by kernel_rfl)) s62
      have g10 : T[10]? = some (.pointer (some ⟨w2.heap.size, 0, none⟩)) := hF 10 (free_of (by kernel_rfl))
      refine ob_yes (wanted_yes rfl (by kernel_rfl) g62) ?_
      clear hF hD
      go_simp
      exact hK _ _ (Below.refl _ _) (rt_eq s65)
    refine obs_cons ?_ ?_
    · intro T wx K hB hF hD hK
      have g62 := get_eq (hD 27 62 (by simp [Region.binds]) (by kernel_rfl)) s62
      have g65 := get_eq (hD 30 65 (by simp [Region.binds]) (by kernel_rfl)) s65
      refine ob_yes (wanted_yes rfl (by kernel_rfl) g62) ?_
      clear hF hD
      have c0 := cell_call k11 hB
      have c1 := cell_call k12 hB
      go_simp
      exact hK _ _ (Below.refl _ _) (rt_eq s66)
    refine obs_cons ?_ ?_
    · intro T wx K hB hF hD hK
      have g62 := get_eq (hD 27 62 (by simp [Region.binds]) (by kernel_rfl)) s62
      have g10 : T[10]? = some (.pointer (some ⟨w2.heap.size, 0, none⟩)) := hF 10 (free_of (by kernel_rfl))
      refine ob_yes (wanted_yes rfl (by kernel_rfl) g62) ?_
      clear hF hD
      go_simp
      exact hK _ _ (Below.refl _ _) (rt_eq s67)
    refine obs_cons ?_ ?_
    · intro T wx K hB hF hD hK
      have g62 := get_eq (hD 27 62 (by simp [Region.binds]) (by kernel_rfl)) s62
      have g67 := get_eq (hD 32 67 (by simp [Region.binds]) (by kernel_rfl)) s67
      refine ob_yes (wanted_yes rfl (by kernel_rfl) g62) ?_
      clear hF hD
      have c0 := cell_call k13 hB
      have c1 := cell_call k14 hB
      go_simp
      exact hK _ _ (Below.refl _ _) (rt_eq s68)
    refine obs_cons ?_ ?_
    · intro T wx K hB hF hD hK
      have g62 := get_eq (hD 27 62 (by simp [Region.binds]) (by kernel_rfl)) s62
      have g64 := get_eq (hD 29 64 (by simp [Region.binds]) (by kernel_rfl)) s64
      have g66 := get_eq (hD 31 66 (by simp [Region.binds]) (by kernel_rfl)) s66
      have g68 := get_eq (hD 33 68 (by simp [Region.binds]) (by kernel_rfl)) s68
      refine ob_yes (wanted_yes rfl (by kernel_rfl) g62) ?_
      clear hF hD
      go_simp
      refine (orient_is y0 y1 y2 y3 y4 y5 o1 _ by0.inr by1.inr by2.inr by3.inr by4.inr by5.inr HO1).mono ?_; rintro e w9 ⟨rfl, hb⟩
      exact hK _ _ hb (rt_eq s69)
    refine obs_cons ?_ ?_
    · intro T wx K hB hF hD hK
      have g62 := get_eq (hD 27 62 (by simp [Region.binds]) (by kernel_rfl)) s62
      have g10 : T[10]? = some (.pointer (some ⟨w2.heap.size, 0, none⟩)) := hF 10 (free_of (by kernel_rfl))
      refine ob_yes (wanted_yes rfl (by kernel_rfl) g62) ?_
      clear hF hD
      go_simp
      exact hK _ _ (Below.refl _ _) (rt_eq s70)
    refine obs_cons ?_ ?_
    · intro T wx K hB hF hD hK
      have g62 := get_eq (hD 27 62 (by simp [Region.binds]) (by kernel_rfl)) s62
      have g70 := get_eq (hD 35 70 (by simp [Region.binds]) (by kernel_rfl)) s70
      refine ob_yes (wanted_yes rfl (by kernel_rfl) g62) ?_
      clear hF hD
      have c0 := cell_call k9 hB
      have c1 := cell_call k10 hB
      go_simp
      exact hK _ _ (Below.refl _ _) (rt_eq s71)
    refine obs_cons ?_ ?_
    · intro T wx K hB hF hD hK
      have g62 := get_eq (hD 27 62 (by simp [Region.binds]) (by kernel_rfl)) s62
      have g10 : T[10]? = some (.pointer (some ⟨w2.heap.size, 0, none⟩)) := hF 10 (free_of (by kernel_rfl))
      refine ob_yes (wanted_yes rfl (by kernel_rfl) g62) ?_
      clear hF hD
      go_simp
      exact hK _ _ (Below.refl _ _) (rt_eq s72)
    refine obs_cons ?_ ?_
    · intro T wx K hB hF hD hK
      have g62 := get_eq (hD 27 62 (by simp [Region.binds]) (by kernel_rfl)) s62
      have g72 := get_eq (hD 37 72 (by simp [Region.binds]) (by kernel_rfl)) s72
      refine ob_yes (wanted_yes rfl (by kernel_rfl) g62) ?_
      clear hF hD
      have c0 := cell_call k11 hB
      have c1 := cell_call k12 hB
      go_simp
      exact hK _ _ (Below.refl _ _) (rt_eq s73)
    refine obs_cons ?_ ?_
    · intro T wx K hB hF hD hK
      have g62 := get_eq (hD 27 62 (by simp [Region.binds]) (by kernel_rfl)) s62
      have g10 : T[10]? = some (.pointer (some ⟨w2.heap.size, 0, none⟩)) := hF 10 (free_of (by kernel_rfl))
      refine ob_yes (wanted_yes rfl (by kernel_rfl) g62) ?_
      clear hF hD
      go_simp
      exact hK _ _ (Below.refl _ _) (rt_eq s74)
    refine obs_cons ?_ ?_
    · intro T wx K hB hF hD hK
      have g62 := get_eq (hD 27 62 (by simp [Region.binds]) (by kernel_rfl)) s62
      have g74 := get_eq (hD 39 74 (by simp [Region.binds]) (by kernel_rfl)) s74
      refine ob_yes (wanted_yes rfl (by kernel_rfl) g62) ?_
      clear hF hD
      have c0 := cell_call k13 hB
      have c1 := cell_call k14 hB
      go_simp
      exact hK _ _ (Below.refl _ _) (rt_eq s75)
    refine obs_cons ?_ ?_
    · intro T wx K hB hF hD hK
      have g62 := get_eq (hD 27 62 (by simp [Region.binds]) (by kernel_rfl)) s62
      have g71 := get_eq (hD 36 71 (by simp [Region.binds]) (by kernel_rfl)) s71
      have g73 := get_eq (hD 38 73 (by simp [Region.binds]) (by kernel_rfl)) s73
      have g75 := get_eq (hD 40 75 (by simp [Region.binds]) (by kernel_rfl)) s75
      refine ob_yes (wanted_yes rfl (by kernel_rfl) g62) ?_
      clear hF hD
      go_simp
      refine (rside_is y0 y1 y2 y3 y4 y5 o1 _ by0 by1 by2 by3 by4 by5 HO1).mono ?_; rintro e w9 ⟨rfl, hb⟩
      exact hK _ _ hb (rt_eq s76)
    refine obs_cons ?_ ?_
    · intro T wx K hB hF hD hK
      have g62 := get_eq (hD 27 62 (by simp [Region.binds]) (by kernel_rfl)) s62
      have g69 := get_eq (hD 34 69 (by simp [Region.binds]) (by kernel_rfl)) s69
      have g76 := get_eq (hD 41 76 (by simp [Region.binds]) (by kernel_rfl)) s76
      refine ob_yes (wanted_yes rfl (by kernel_rfl) g62) ?_
      clear hF hD
      go_simp
      exact hK _ _ (Below.refl _ _) (rt_eq s77)
    refine obs_cons ?_ ?_
    · intro T wx K hB hF hD hK
      have g62 := get_eq (hD 27 62 (by simp [Region.binds]) (by kernel_rfl)) s62
      have g77 := get_eq (hD 42 77 (by simp [Region.binds]) (by kernel_rfl)) s77
      refine ob_yes (wanted_none rfl) ?_
      clear hF hD
      go_simp
      exact hK _ _ (Below.refl _ _) (rt_eq s78)
    refine obs_cons ?_ ?_
    · intro T wx K hB hF hD hK
      have g78 := get_eq (hD 43 78 (by simp [Region.binds]) (by kernel_rfl)) s78
      refine ob_yes (wanted_none rfl) ?_
      clear hF hD
      go_simp
      exact hK _ _ (Below.refl _ _) (rt_eq s79)
    refine obs_cons ?_ ?_
    · intro T wx K hB hF hD hK
      have g79 := get_eq (hD 44 79 (by simp [Region.binds]) (by kernel_rfl)) s79
      have g10 : T[10]? = some (.pointer (some ⟨w2.heap.size, 0, none⟩)) := hF 10 (free_of (by kernel_rfl))
      refine ob_yes (wanted_yes rfl (by kernel_rfl) g79) ?_
      clear hF hD
      go_simp
      exact hK _ _ (Below.refl _ _) (rt_eq s80)
    refine obs_cons ?_ ?_
    · intro T wx K hB hF hD hK
      have g79 := get_eq (hD 44 79 (by simp [Region.binds]) (by kernel_rfl)) s79
      have g80 := get_eq (hD 45 80 (by simp [Region.binds]) (by kernel_rfl)) s80
      refine ob_yes (wanted_yes rfl (by kernel_rfl) g79) ?_
      clear hF hD
      have c0 := cell_call k9 hB
      have c1 := cell_call k10 hB
      go_simp
      exact hK _ _ (Below.refl _ _) (rt_eq s81)
    refine obs_cons ?_ ?_
    · intro T wx K hB hF hD hK
      have g79 := get_eq (hD 44 79 (by simp [Region.binds]) (by kernel_rfl)) s79
      have g10 : T[10]? = some (.pointer (some ⟨w2.heap.size, 0, none⟩)) := hF 10 (free_of (by kernel_rfl))
      refine ob_yes (wanted_yes rfl (by kernel_rfl) g79) ?_
      clear hF hD
      go_simp
      exact hK _ _ (Below.refl _ _) (rt_eq s82)
    refine obs_cons ?_ ?_
    · intro T wx K hB hF hD hK
      have g79 := get_eq (hD 44 79 (by simp [Region.binds]) (by kernel_rfl)) s79
      have g82 := get_eq (hD 47 82 (by simp [Region.binds]) (by kernel_rfl)) s82
      refine ob_yes (wanted_yes rfl (by kernel_rfl) g79) ?_
      clear hF hD
      have c0 := cell_call k11 hB
      have c1 := cell_call k12 hB
      go_simp
      exact hK _ _ (Below.refl _ _) (rt_eq s83)
    refine obs_cons ?_ ?_
    · intro T wx K hB hF hD hK
      have g79 := get_eq (hD 44 79 (by simp [Region.binds]) (by kernel_rfl)) s79
      have g10 : T[10]? = some (.pointer (some ⟨w2.heap.size, 0, none⟩)) := hF 10 (free_of (by kernel_rfl))
      refine ob_yes (wanted_yes rfl (by kernel_rfl) g79) ?_
      clear hF hD
      go_simp
      exact hK _ _ (Below.refl _ _) (rt_eq s84)
    refine obs_cons ?_ ?_
    · intro T wx K hB hF hD hK
      have g79 := get_eq (hD 44 79 (by simp [Region.binds]) (by kernel_rfl)) s79
      have g84 := get_eq (hD 49 84 (by simp [Region.binds]) (by kernel_rfl)) s84
      refine ob_yes (wanted_yes rfl (by kernel_rfl) g79) ?_
      clear hF hD
      have c0 := cell_call k13 hB
      have c1 := cell_call k14 hB
      go_simp
      exact hK _ _ (Below.refl _ _) (rt_eq s85)
    refine obs_cons ?_ ?_
    · intro T wx K hB hF hD hK
      have g79 := get_eq (hD 44 79 (by simp [Region.binds]) (by kernel_rfl)) s79
      have g81 := get_eq (hD 46 81 (by simp [Region.binds]) (by kernel_rfl)) s81
      have g83 := get_eq (hD 48 83 (by simp [Region.binds]) (by kernel_rfl)) s83
      have g85 := get_eq (hD 50 85 (by simp [Region.binds]) (by kernel_rfl)) s85
      refine ob_yes (wanted_yes rfl (by kernel_rfl) g79) ?_
      clear hF hD
      go_simp
      refine (onseg_is y0 y1 y2 y3 y4 y5 o2 _ by0.inr by1.inr by2.inr by3.inr by4.inr by5.inr HO2).mono ?_; rintro e w9 ⟨rfl, hb⟩
      exact hK _ _ hb (rt_eq s86)
    refine obs_cons ?_ ?_
    · intro T wx K hB hF hD hK
      have g79 := get_eq (hD 44 79 (by simp [Region.binds]) (by kernel_rfl)) s79
      have g10 : T[10]? = some (.pointer (some ⟨w2.heap.size, 0, none⟩)) := hF 10 (free_of (by kernel_rfl))
      refine ob_yes (wanted_yes rfl (by kernel_rfl) g79) ?_
      clear hF hD
      go_simp
      exact hK _ _ (Below.refl _ _) (rt_eq s87)
    refine obs_cons ?_ ?_
    · intro T wx K hB hF hD hK
      have g79 := get_eq (hD 44 79 (by simp [Region.binds]) (by kernel_rfl)) s79
      have g87 := get_eq (hD 52 87 (by simp [Region.binds]) (by kernel_rfl)) s87
      refine ob_yes (wanted_yes rfl (by kernel_rfl) g79) ?_
      clear hF hD
      have c0 := cell_call k9 hB
      have c1 := cell_call k10 hB
      go_simp
      exact hK _ _ (Below.refl _ _) (rt_eq s88)
    refine obs_cons ?_ ?_
    · intro T wx K hB hF hD hK
      have g79 := get_eq (hD 44 79 (by simp [Region.binds]) (by kernel_rfl)) s79
      have g10 : T[10]? = some (.pointer (some ⟨w2.heap.size, 0, none⟩)) := hF 10 (free_of (by kernel_rfl))
      refine ob_yes (wanted_yes rfl (by kernel_rfl) g79) ?_
      clear hF hD
      go_simp
      exact hK _ _ (Below.refl _ _) (rt_eq s89)
    refine obs_cons ?_ ?_
    · intro T wx K hB hF hD hK
      have g79 := get_eq (hD 44 79 (by simp [Region.binds]) (by kernel_rfl)) s79
      have g89 := get_eq (hD 54 89 (by simp [Region.binds]) (by kernel_rfl)) s89
      refine ob_yes (wanted_yes rfl (by kernel_rfl) g79) ?_
      clear hF hD
      have c0 := cell_call k11 hB
      have c1 := cell_call k12 hB
      go_simp
      exact hK _ _ (Below.refl _ _) (rt_eq s90)
    refine obs_cons ?_ ?_
    · intro T wx K hB hF hD hK
      have g79 := get_eq (hD 44 79 (by simp [Region.binds]) (by kernel_rfl)) s79
      have g10 : T[10]? = some (.pointer (some ⟨w2.heap.size, 0, none⟩)) := hF 10 (free_of (by kernel_rfl))
      refine ob_yes (wanted_yes rfl (by kernel_rfl) g79) ?_
      clear hF hD
      go_simp
      exact hK _ _ (Below.refl _ _) (rt_eq s91)
    refine obs_cons ?_ ?_
    · intro T wx K hB hF hD hK
      have g79 := get_eq (hD 44 79 (by simp [Region.binds]) (by kernel_rfl)) s79
      have g91 := get_eq (hD 56 91 (by simp [Region.binds]) (by kernel_rfl)) s91
      refine ob_yes (wanted_yes rfl (by kernel_rfl) g79) ?_
      clear hF hD
      have c0 := cell_call k13 hB
      have c1 := cell_call k14 hB
      go_simp
      exact hK _ _ (Below.refl _ _) (rt_eq s92)
    refine obs_cons ?_ ?_
    · intro T wx K hB hF hD hK
      have g79 := get_eq (hD 44 79 (by simp [Region.binds]) (by kernel_rfl)) s79
      have g88 := get_eq (hD 53 88 (by simp [Region.binds]) (by kernel_rfl)) s88
      have g90 := get_eq (hD 55 90 (by simp [Region.binds]) (by kernel_rfl)) s90
      have g92 := get_eq (hD 57 92 (by simp [Region.binds]) (by kernel_rfl)) s92
      refine ob_yes (wanted_yes rfl (by kernel_rfl) g79) ?_
      clear hF hD
      go_simp
      refine (ron_is y0 y1 y2 y3 y4 y5 o2 _ by0 by1 by2 by3 by4 by5 HO2).mono ?_; rintro e w9 ⟨rfl, hb⟩
      exact hK _ _ hb (rt_eq s93)
    refine obs_cons ?_ ?_
    · intro T wx K hB hF hD hK
      have g79 := get_eq (hD 44 79 (by simp [Region.binds]) (by kernel_rfl)) s79
      have g86 := get_eq (hD 51 86 (by simp [Region.binds]) (by kernel_rfl)) s86
      have g93 := get_eq (hD 58 93 (by simp [Region.binds]) (by kernel_rfl)) s93
      refine ob_yes (wanted_yes rfl (by kernel_rfl) g79) ?_
      clear hF hD
      go_simp
      exact hK _ _ (Below.refl _ _) (rt_eq s94)
    refine obs_cons ?_ ?_
    · intro T wx K hB hF hD hK
      have g79 := get_eq (hD 44 79 (by simp [Region.binds]) (by kernel_rfl)) s79
      have g94 := get_eq (hD 59 94 (by simp [Region.binds]) (by kernel_rfl)) s94
      refine ob_yes (wanted_none rfl) ?_
      clear hF hD
      go_simp
      exact hK _ _ (Below.refl _ _) (rt_eq s95)
    refine obs_cons ?_ ?_
    · intro T wx K hB hF hD hK
      have g95 := get_eq (hD 60 95 (by simp [Region.binds]) (by kernel_rfl)) s95
      refine ob_yes (wanted_none rfl) ?_
      clear hF hD
      go_simp
      exact hK _ _ (Below.refl _ _) (rt_eq s96)
    refine obs_cons ?_ ?_
    · intro T wx K hB hF hD hK
      have g96 := get_eq (hD 61 96 (by simp [Region.binds]) (by kernel_rfl)) s96
      have g10 : T[10]? = some (.pointer (some ⟨w2.heap.size, 0, none⟩)) := hF 10 (free_of (by kernel_rfl))
      refine ob_yes (wanted_yes rfl (by kernel_rfl) g96) ?_
      clear hF hD
      go_simp
      exact hK _ _ (Below.refl _ _) (rt_eq s97)
    refine obs_cons ?_ ?_
    · intro T wx K hB hF hD hK
      have g96 := get_eq (hD 61 96 (by simp [Region.binds]) (by kernel_rfl)) s96
      have g97 := get_eq (hD 62 97 (by simp [Region.binds]) (by kernel_rfl)) s97
      refine ob_yes (wanted_yes rfl (by kernel_rfl) g96) ?_
      clear hF hD
      have c0 := cell_call k9 hB
      have c1 := cell_call k10 hB
      go_simp
      exact hK _ _ (Below.refl _ _) (rt_eq s98)
    refine obs_cons ?_ ?_
    · intro T wx K hB hF hD hK
      have g96 := get_eq (hD 61 96 (by simp [Region.binds]) (by kernel_rfl)) s96
      have g10 : T[10]? = some (.pointer (some ⟨w2.heap.size, 0, none⟩)) := hF 10 (free_of (by kernel_rfl))
      refine ob_yes (wanted_yes rfl (by kernel_rfl) g96) ?_
      clear hF hD
      go_simp
      exact hK _ _ (Below.refl _ _) (rt_eq s99)
    refine obs_cons ?_ ?_
    · intro T wx K hB hF hD hK
      have g96 := get_eq (hD 61 96 (by simp [Region.binds]) (by kernel_rfl)) s96
      have g99 := get_eq (hD 64 99 (by simp [Region.binds]) (by kernel_rfl)) s99
      refine ob_yes (wanted_yes rfl (by kernel_rfl) g96) ?_
      clear hF hD
      have c0 := cell_call k11 hB
      have c1 := cell_call k12 hB
      go_simp
      exact hK _ _ (Below.refl _ _) (rt_eq s100)
    refine obs_cons ?_ ?_
    · intro T wx K hB hF hD hK
      have g96 := get_eq (hD 61 96 (by simp [Region.binds]) (by kernel_rfl)) s96
      have g10 : T[10]? = some (.pointer (some ⟨w2.heap.size, 0, none⟩)) := hF 10 (free_of (by kernel_rfl))
      refine ob_yes (wanted_yes rfl (by kernel_rfl) g96) ?_
      clear hF hD
      go_simp
      exact hK _ _ (Below.refl _ _) (rt_eq s101)
    refine obs_cons ?_ ?_
    · intro T wx K hB hF hD hK
      have g96 := get_eq (hD 61 96 (by simp [Region.binds]) (by kernel_rfl)) s96
      have g101 := get_eq (hD 66 101 (by simp [Region.binds]) (by kernel_rfl)) s101
      refine ob_yes (wanted_yes rfl (by kernel_rfl) g96) ?_
      clear hF hD
      have c0 := cell_call k13 hB
      have c1 := cell_call k14 hB
      go_simp
      exact hK _ _ (Below.refl _ _) (rt_eq s102)
    refine obs_cons ?_ ?_
    · intro T wx K hB hF hD hK
      have g96 := get_eq (hD 61 96 (by simp [Region.binds]) (by kernel_rfl)) s96
      have g10 : T[10]? = some (.pointer (some ⟨w2.heap.size, 0, none⟩)) := hF 10 (free_of (by kernel_rfl))
      refine ob_yes (wanted_yes rfl (by kernel_rfl) g96) ?_
      clear hF hD
      go_simp
      exact hK _ _ (Below.refl _ _) (rt_eq s103)
    refine obs_cons ?_ ?_
    · intro T wx K hB hF hD hK
      have g96 := get_eq (hD 61 96 (by simp [Region.binds]) (by kernel_rfl)) s96
      have g103 := get_eq (hD 68 103 (by simp [Region.binds]) (by kernel_rfl)) s103
      refine ob_yes (wanted_yes rfl (by kernel_rfl) g96) ?_
      clear hF hD
      have c0 := cell_call k15 hB
      have c1 := cell_call k16 hB
      go_simp
      exact hK _ _ (Below.refl _ _) (rt_eq s104)
    refine obs_cons ?_ ?_
    · intro T wx K hB hF hD hK
      have g96 := get_eq (hD 61 96 (by simp [Region.binds]) (by kernel_rfl)) s96
      have g98 := get_eq (hD 63 98 (by simp [Region.binds]) (by kernel_rfl)) s98
      have g100 := get_eq (hD 65 100 (by simp [Region.binds]) (by kernel_rfl)) s100
      have g102 := get_eq (hD 67 102 (by simp [Region.binds]) (by kernel_rfl)) s102
      have g104 := get_eq (hD 69 104 (by simp [Region.binds]) (by kernel_rfl)) s104
      refine ob_yes (wanted_yes rfl (by kernel_rfl) g96) ?_
      clear hF hD
      go_simp
      refine (cross_is y0 y1 y2 y3 y4 y5 y6 y7 o3 _ by0.inr by1.inr by2.inr by3.inr by4.inr by5.inr by6.inr by7.inr HO3).mono ?_; rintro e w9 ⟨rfl, hb⟩
      exact hK _ _ hb (rt_eq s105)
    refine obs_cons ?_ ?_
    · intro T wx K hB hF hD hK
      have g96 := get_eq (hD 61 96 (by simp [Region.binds]) (by kernel_rfl)) s96
      have g10 : T[10]? = some (.pointer (some ⟨w2.heap.size, 0, none⟩)) := hF 10 (free_of (by kernel_rfl))
      refine ob_yes (wanted_yes rfl (by kernel_rfl) g96) ?_
      clear hF hD
      go_simp
      exact hK _ _ (Below.refl _ _) (rt_eq s106)
    refine obs_cons ?_ ?_
    · intro T wx K hB hF hD hK
      have g96 := get_eq (hD 61 96 (by simp [Region.binds]) (by kernel_rfl)) s96
      have g106 := get_eq (hD 71 106 (by simp [Region.binds]) (by kernel_rfl)) s106
      refine ob_yes (wanted_yes rfl (by kernel_rfl) g96) ?_
      clear hF hD
      have c0 := cell_call k9 hB
      have c1 := cell_call k10 hB
      go_simp
      exact hK _ _ (Below.refl _ _) (rt_eq s107)
    refine obs_cons ?_ ?_
    · intro T wx K hB hF hD hK
      have g96 := get_eq (hD 61 96 (by simp [Region.binds]) (by kernel_rfl)) s96
      have g10 : T[10]? = some (.pointer (some ⟨w2.heap.size, 0, none⟩)) := hF 10 (free_of (by kernel_rfl))
      refine ob_yes (wanted_yes rfl (by kernel_rfl) g96) ?_
      clear hF hD
      go_simp
      exact hK _ _ (Below.refl _ _) (rt_eq s108)
    refine obs_cons ?_ ?_
    · intro T wx K hB hF hD hK
      have g96 := get_eq (hD 61 96 (by simp [Region.binds]) (by kernel_rfl)) s96
      have g108 := get_eq (hD 73 108 (by simp [Region.binds]) (by kernel_rfl)) s108
      refine ob_yes (wanted_yes rfl (by kernel_rfl) g96) ?_
      clear hF hD
      have c0 := cell_call k11 hB
      have c1 := cell_call k12 hB
      go_simp
      exact hK _ _ (Below.refl _ _) (rt_eq s109)
    refine obs_cons ?_ ?_
    · intro T wx K hB hF hD hK
      have g96 := get_eq (hD 61 96 (by simp [Region.binds]) (by kernel_rfl)) s96
      have g10 : T[10]? = some (.pointer (some ⟨w2.heap.size, 0, none⟩)) := hF 10 (free_of (by kernel_rfl))
      refine ob_yes (wanted_yes rfl (by kernel_rfl) g96) ?_
      clear hF hD
      go_simp
      exact hK _ _ (Below.refl _ _) (rt_eq s110)
    refine obs_cons ?_ ?_
    · intro T wx K hB hF hD hK
      have g96 := get_eq (hD 61 96 (by simp [Region.binds]) (by kernel_rfl)) s96
      have g110 := get_eq (hD 75 110 (by simp [Region.binds]) (by kernel_rfl)) s110
      refine ob_yes (wanted_yes rfl (by kernel_rfl) g96) ?_
      clear hF hD
      have c0 := cell_call k13 hB
      have c1 := cell_call k14 hB
      go_simp
      exact hK _ _ (Below.refl _ _) (rt_eq s111)
    refine obs_cons ?_ ?_
    · intro T wx K hB hF hD hK
      have g96 := get_eq (hD 61 96 (by simp [Region.binds]) (by kernel_rfl)) s96
      have g10 : T[10]? = some (.pointer (some ⟨w2.heap.size, 0, none⟩)) := hF 10 (free_of (by kernel_rfl))
      refine ob_yes (wanted_yes rfl (by kernel_rfl) g96) ?_
      clear hF hD
      go_simp
      exact hK _ _ (Below.refl _ _) (rt_eq s112)
    refine obs_cons ?_ ?_
    · intro T wx K hB hF hD hK
      have g96 := get_eq (hD 61 96 (by simp [Region.binds]) (by kernel_rfl)) s96
      have g112 := get_eq (hD 77 112 (by simp [Region.binds]) (by kernel_rfl)) s112
      refine ob_yes (wanted_yes rfl (by kernel_rfl) g96) ?_
      clear hF hD
      have c0 := cell_call k15 hB
      have c1 := cell_call k16 hB
      go_simp
      exact hK _ _ (Below.refl _ _) (rt_eq s113)
    refine obs_cons ?_ ?_
    · intro T wx K hB hF hD hK
      have g96 := get_eq (hD 61 96 (by simp [Region.binds]) (by kernel_rfl)) s96
      have g107 := get_eq (hD 72 107 (by simp [Region.binds]) (by kernel_rfl)) s107
      have g109 := get_eq (hD 74 109 (by simp [Region.binds]) (by kernel_rfl)) s109
      have g111 := get_eq (hD 76 111 (by simp [Region.binds]) (by kernel_rfl)) s111
      have g113 := get_eq (hD 78 113 (by simp [Region.binds]) (by kernel_rfl)) s113
      refine ob_yes (wanted_yes rfl (by kernel_rfl) g96) ?_
      clear hF hD
      go_simp
      refine (rcut_r y0 y1 y2 y3 y4 y5 y6 y7 o3 _ by0 by1 by2 by3 by4 by5 by6 by7 HO3).mono ?_; rintro e w9 ⟨rfl, hb⟩
      exact hK _ _ hb (rt_eq s114)
    refine obs_cons ?_ ?_
    · intro T wx K hB hF hD hK
      have g96 := get_eq (hD 61 96 (by simp [Region.binds]) (by kernel_rfl)) s96
      have g105 := get_eq (hD 70 105 (by simp [Region.binds]) (by kernel_rfl)) s105
      have g114 := get_eq (hD 79 114 (by simp [Region.binds]) (by kernel_rfl)) s114
      refine ob_yes (wanted_yes rfl (by kernel_rfl) g96) ?_
      clear hF hD
      go_simp
      exact hK _ _ (Below.refl _ _) (rt_eq s115)
    refine obs_cons ?_ ?_
    · intro T wx K hB hF hD hK
      have g96 := get_eq (hD 61 96 (by simp [Region.binds]) (by kernel_rfl)) s96
      have g115 := get_eq (hD 80 115 (by simp [Region.binds]) (by kernel_rfl)) s115
      refine ob_yes (wanted_none rfl) ?_
      clear hF hD
      go_simp
      exact hK _ _ (Below.refl _ _) (rt_eq s116)
    refine obs_cons ?_ ?_
    · intro T wx K hB hF hD hK
      have g116 := get_eq (hD 81 116 (by simp [Region.binds]) (by kernel_rfl)) s116
      refine ob_yes (wanted_none rfl) ?_
      clear hF hD
      go_simp
      exact hK _ _ (Below.refl _ _) (rt_eq s117)
    refine obs_cons ?_ ?_
    · intro T wx K hB hF hD hK
      have g117 := get_eq (hD 82 117 (by simp [Region.binds]) (by kernel_rfl)) s117
      have g13 : T[13]? = some (.pointer (some ⟨w5.heap.size, 0, none⟩)) := hF 13 (free_of (by kernel_rfl))
      refine ob_yes (wanted_yes rfl (by kernel_rfl) g117) ?_
      clear hF hD
      have c0 := cell_call k17 hB
      have c1 := cell_call k18 hB
      go_simp
      exact hK _ _ (Below.refl _ _) (rt_eq s118)
    refine obs_cons ?_ ?_
    · intro T wx K hB hF hD hK
      have g117 := get_eq (hD 82 117 (by simp [Region.binds]) (by kernel_rfl)) s117
      have g15 : T[15]? = some (.pointer (some ⟨w6.heap.size, 0, none⟩)) := hF 15 (free_of (by kernel_rfl))
      refine ob_yes (wanted_yes rfl (by kernel_rfl) g117) ?_
      clear hF hD
      have c0 := cell_call k21 hB
      have c1 := cell_call k22 hB
      go_simp
      exact hK _ _ (Below.refl _ _) (rt_eq s119)
    refine obs_cons ?_ ?_
    · intro T wx K hB hF hD hK
      have g117 := get_eq (hD 82 117 (by simp [Region.binds]) (by kernel_rfl)) s117
      have g118 := get_eq (hD 83 118 (by simp [Region.binds]) (by kernel_rfl)) s118
      have g119 := get_eq (hD 84 119 (by simp [Region.binds]) (by kernel_rfl)) s119
      refine ob_yes (wanted_yes rfl (by kernel_rfl) g117) ?_
      clear hF hD
      go_simp
      exact hK _ _ (Below.refl _ _) (rt_eq s120)
    refine obs_cons ?_ ?_
    · intro T wx K hB hF hD hK
      have g117 := get_eq (hD 82 117 (by simp [Region.binds]) (by kernel_rfl)) s117
      have g120 := get_eq (hD 85 120 (by simp [Region.binds]) (by kernel_rfl)) s120
      refine ob_yes (wanted_none rfl) ?_
      clear hF hD
      go_simp
      exact hK _ _ (Below.refl _ _) (rt_eq s121)
    refine obs_cons ?_ ?_
    · intro T wx K hB hF hD hK
      have g121 := get_eq (hD 86 121 (by simp [Region.binds]) (by kernel_rfl)) s121
      refine ob_yes (wanted_none rfl) ?_
      clear hF hD
      go_simp
      exact hK _ _ (Below.refl _ _) (rt_eq s122)
    refine obs_cons ?_ ?_
    · intro T wx K hB hF hD hK
      have g122 := get_eq (hD 87 122 (by simp [Region.binds]) (by kernel_rfl)) s122
      have g14 : T[14]? = some (.pointer (some ⟨w5.heap.size + 1, 0, none⟩)) := hF 14 (free_of (by kernel_rfl))
      refine ob_yes (wanted_yes rfl (by kernel_rfl) g122) ?_
      clear hF hD
      have c0 := cell_call k19 hB
      have c1 := cell_call k20 hB
      go_simp
      exact hK _ _ (Below.refl _ _) (rt_eq s123)
    refine obs_cons ?_ ?_
    · intro T wx K hB hF hD hK
      have g122 := get_eq (hD 87 122 (by simp [Region.binds]) (by kernel_rfl)) s122
      have g16 : T[16]? = some (.pointer (some ⟨w6.heap.size + 1, 0, none⟩)) := hF 16 (free_of (by kernel_rfl))
      refine ob_yes (wanted_yes rfl (by kernel_rfl) g122) ?_
      clear hF hD
      have c0 := cell_call k23 hB
      have c1 := cell_call k24 hB
      go_simp
      exact hK _ _ (Below.refl _ _) (rt_eq s124)
    refine obs_cons ?_ ?_
    · intro T wx K hB hF hD hK
      have g122 := get_eq (hD 87 122 (by simp [Region.binds]) (by kernel_rfl)) s122
      have g123 := get_eq (hD 88 123 (by simp [Region.binds]) (by kernel_rfl)) s123
      have g124 := get_eq (hD 89 124 (by simp [Region.binds]) (by kernel_rfl)) s124
      refine ob_yes (wanted_yes rfl (by kernel_rfl) g122) ?_
      clear hF hD
      go_simp
      exact hK _ _ (Below.refl _ _) (rt_eq s125)
    refine obs_cons ?_ ?_
    · intro T wx K hB hF hD hK
      have g122 := get_eq (hD 87 122 (by simp [Region.binds]) (by kernel_rfl)) s122
      have g125 := get_eq (hD 90 125 (by simp [Region.binds]) (by kernel_rfl)) s125
      refine ob_yes (wanted_none rfl) ?_
      clear hF hD
      go_simp
      exact hK _ _ (Below.refl _ _) (rt_eq s126)
    refine obs_cons ?_ ?_
    · intro T wx K hB hF hD hK
      have g126 := get_eq (hD 91 126 (by simp [Region.binds]) (by kernel_rfl)) s126
      refine ob_yes (wanted_none rfl) ?_
      clear hF hD
      go_simp
      exact hK _ _ (Below.refl _ _) (rt_eq s127)
    refine obs_cons ?_ ?_
    · intro T wx K hB hF hD hK
      have g127 := get_eq (hD 92 127 (by simp [Region.binds]) (by kernel_rfl)) s127
      have g11 : T[11]? = some (.slice ra0 u.length rc0) := hF 11 (free_of (by kernel_rfl))
      refine ob_yes (wanted_yes rfl (by kernel_rfl) g127) ?_
      clear hF hD
      go_simp
      exact hK _ _ (Below.refl _ _) (rt_eq s128)
    refine obs_cons ?_ ?_
    · intro T wx K hB hF hD hK
      have g127 := get_eq (hD 92 127 (by simp [Region.binds]) (by kernel_rfl)) s127
      have g12 : T[12]? = some (.slice rb0 v.length rd0) := hF 12 (free_of (by kernel_rfl))
      refine ob_yes (wanted_yes rfl (by kernel_rfl) g127) ?_
      clear hF hD
      go_simp
      exact hK _ _ (Below.refl _ _) (rt_eq s129)
    refine obs_cons ?_ ?_
    · intro T wx K hB hF hD hK
      have g127 := get_eq (hD 92 127 (by simp [Region.binds]) (by kernel_rfl)) s127
      have g128 := get_eq (hD 93 128 (by simp [Region.binds]) (by kernel_rfl)) s128
      have g129 := get_eq (hD 94 129 (by simp [Region.binds]) (by kernel_rfl)) s129
      refine ob_yes (wanted_yes rfl (by kernel_rfl) g127) ?_
      clear hF hD
      go_simp
      refine (bd_r _ _ _ _ u v o4 _ na nb (prow_below QA.out hB) (prow_below QB.out hB) ra rb HO4).mono ?_; rintro e w9 ⟨rfl, hb⟩
      exact hK _ _ hb (rt_eq s130)
    refine obs_cons ?_ ?_
    · intro T wx K hB hF hD hK
      have g127 := get_eq (hD 92 127 (by simp [Region.binds]) (by kernel_rfl)) s127
      have g11 : T[11]? = some (.slice ra0 u.length rc0) := hF 11 (free_of (by kernel_rfl))
      refine ob_yes (wanted_yes rfl (by kernel_rfl) g127) ?_
      clear hF hD
      go_simp
      exact hK _ _ (Below.refl _ _) (rt_eq s131)
    refine obs_cons ?_ ?_
    · intro T wx K hB hF hD hK
      have g127 := get_eq (hD 92 127 (by simp [Region.binds]) (by kernel_rfl)) s127
      have g12 : T[12]? = some (.slice rb0 v.length rd0) := hF 12 (free_of (by kernel_rfl))
      refine ob_yes (wanted_yes rfl (by kernel_rfl) g127) ?_
      clear hF hD
      go_simp
      exact hK _ _ (Below.refl _ _) (rt_eq s132)
    refine obs_cons ?_ ?_
    · intro T wx K hB hF hD hK
      have g127 := get_eq (hD 92 127 (by simp [Region.binds]) (by kernel_rfl)) s127
      have g131 := get_eq (hD 96 131 (by simp [Region.binds]) (by kernel_rfl)) s131
      have g132 := get_eq (hD 97 132 (by simp [Region.binds]) (by kernel_rfl)) s132
      refine ob_yes (wanted_yes rfl (by kernel_rfl) g127) ?_
      clear hF hD
      go_simp
      refine (rgap_r _ _ _ _ u v o4 _ na nb (prow_below QA.out hB) (prow_below QB.out hB) ra rb HO4).mono ?_; rintro e w9 ⟨rfl, hb⟩
      exact hK _ _ hb (rt_eq s133)
    refine obs_cons ?_ ?_
    · intro T wx K hB hF hD hK
      have g127 := get_eq (hD 92 127 (by simp [Region.binds]) (by kernel_rfl)) s127
      have g130 := get_eq (hD 95 130 (by simp [Region.binds]) (by kernel_rfl)) s130
      have g133 := get_eq (hD 98 133 (by simp [Region.binds]) (by kernel_rfl)) s133
      refine ob_yes (wanted_yes rfl (by kernel_rfl) g127) ?_
      clear hF hD
      go_simp
      exact hK _ _ (Below.refl _ _) (rt_eq s134)
    refine obs_cons ?_ ?_
    · intro T wx K hB hF hD hK
      have g127 := get_eq (hD 92 127 (by simp [Region.binds]) (by kernel_rfl)) s127
      have g134 := get_eq (hD 99 134 (by simp [Region.binds]) (by kernel_rfl)) s134
      refine ob_yes (wanted_none rfl) ?_
      clear hF hD
      go_simp
      exact hK _ _ (Below.refl _ _) (rt_eq s135)
    refine obs_cons ?_ ?_
    · intro T wx K hB hF hD hK
      have g135 := get_eq (hD 100 135 (by simp [Region.binds]) (by kernel_rfl)) s135
      refine ob_yes (wanted_none rfl) ?_
      clear hF hD
      go_simp
      exact hK _ _ (Below.refl _ _) (rt_eq s8)
    exact obs_nil
  · intro T w' hb hF hs hD
    have g8 := get_eq (hD 101 8 (by kernel_rfl)) s8
    have fin := Lib.hid (hB.trans (hb.mono hB.size))
    clear hF hD hs hb
    go_wp2_with fail
    refine bodyPost_ret (v := .bool true) (by simp [results, Try.results3, go_sem, g8]) rfl ?_
    exact ⟨rfl, fin.out⟩

theorem walk {w : World} (x0 x1 x2 x3 x4 x5 x6 x7 : Int) (s : Bool) (ao : Option Addr) (lena capa : Nat) (l : List (Int × Int)) (hl : APts w ao lena l) (bo : Option Addr) (lenb capb : Nat) (m : List (Int × Int)) (hm : APts w bo lenb m) :
    Calls Try.prog 3 #[.agg #[.int .i64 x0, .int .i64 x1, .int .i64 x2, .int .i64 x3, .int .i64 x4, .int .i64 x5, .int .i64 x6, .int .i64 x7], .bool s, .slice ao lena capa, .slice bo lenb capb] w fun e w' => e = .returned (.bool true) ∧ Below w.heap.size w w' := by
  obtain ⟨y0, y1, y2, y3, y4, y5, y6, y7, ⟨b0, b1, b2, b3, b4, b5, b6, b7⟩, HP⟩ := pick_is x0 x1 x2 x3 x4 x5 x6 x7 s
  exact walk_y x0 x1 x2 x3 x4 x5 x6 x7 s ao lena capa l bo lenb capb m w hl hm y0 y1 y2 y3 y4 y5 y6 y7 b0 b1 b2 b3 b4 b5 b6 b7 HP

set_option maxRecDepth 100000 in
theorem lifted (os : Os) (started : os.Started) (H : Type) (enc : TypeId × Value → H) :
    ReturnsInHanded {} Try.checked os 3 .any (Rows.geomMatchesReferenceSpec.pre6 enc Try.prog Try.f3 Rows.geomMatchesReferenceRow.domain false) (Rows.geomMatchesReferenceSpec.post enc Try.prog Try.f3 false true false false) := by
  refine returnsInHanded_of_change (C := Try.checked) own started (by kernel_rfl) Try.func3
    (ChangeSpec.witness6 (enc := enc) (C := Try.checked) false ⟨#[], #[.agg #[.int .i64 0, .int .i64 0, .int .i64 0, .int .i64 0, .int .i64 0, .int .i64 0, .int .i64 0, .int .i64 0], .bool false, .slice none 0 0, .slice none 0 0], []⟩ 8 (by kernel_rfl) (by kernel_rfl) (by kernel_rfl) (by kernel_rfl)) ?_
  intro W base args ds gs before hval0 hW hcnd _
  have hval : ∀ (j : Nat) t v, Try.f3.params[j]? = some t → args[j]? = some v → Value.okWide Try.prog W .any base t v := hval0
  have hW' := hW
  obtain ⟨p, q, hA0, hV, rfl, hfz, hnd⟩ := hW
  have hA : DataW.TrodAll enc Try.prog W 0 (fun _ => true) true Try.f3.params.toList args.toList ds p := hA0
  rw [Try.params3] at hA hval
  obtain ⟨v0, vs0, d0, ds0, p0, q0, hargs, rfl, rfl, h0, r0⟩ := trodAll_cons hA
  obtain ⟨v1, vs1, d1, ds1, p1, q1, rfl, rfl, rfl, h1, r1⟩ := trodAll_cons r0
  obtain ⟨v2, vs2, d2, ds2, p2, q2, rfl, rfl, rfl, h2, r2⟩ := trodAll_cons r1
  obtain ⟨v3, vs3, d3, ds3, p3, q3, rfl, rfl, rfl, h3, r3⟩ := trodAll_cons r2
  obtain ⟨rfl, rfl, rfl⟩ := trodAll_nil r3
  obtain rfl : args = #[v0, v1, v2, v3] := by cases args; simp_all
  obtain ⟨rfl, rfl⟩ := trodVars_none hV
  have k0 := h0
  have lt0 : ∀ x ∈ p0, x.block < W.heap.size := by obtain ⟨m, hm⟩ := k0; exact DataW.trod_lt m _ _ _ hm
  obtain ⟨x00, x01, x02, x03, x04, x05, x06, x07, rfl⟩ := open_four (hval 0 24 v0 rfl rfl) h0
  obtain ⟨a1, rfl, rfl, rfl⟩ := open_bool Try.underlying4 (hval 1 4 v1 rfl rfl) h1
  have k2 := h2
  have lt2 : ∀ x ∈ p2, x.block < W.heap.size := by obtain ⟨m, hm⟩ := k2; exact DataW.trod_lt m _ _ _ hm
  obtain ⟨a2, len2, cap2, l2, rfl, w2⟩ := open_pts (hval 2 25 v2 rfl rfl) h2
  have k3 := h3
  have lt3 : ∀ x ∈ p3, x.block < W.heap.size := by obtain ⟨m, hm⟩ := k3; exact DataW.trod_lt m _ _ _ hm
  obtain ⟨a3, len3, cap3, l3, rfl, w3⟩ := open_pts (hval 3 25 v3 rfl rfl) h3
  clear hA0 hval0
  refine (walk x00 x01 x02 x03 x04 x05 x06 x07 a1 a2 len2 cap2 l2 w2 a3 len3 cap3 l3 w3).mono fun e W' ⟨he, bel⟩ => ?_
  subst he
  exact ⟨_, rfl, _, _, _, [], _, [], hW', trodAll_mk1 (shut_bool Try.underlying4 _), (trodAll_cons_mk (Below.trod laidOut (by kernel_rfl) (of_decide_eq_true (by kernel_rfl)) k0 bel lt0) (trodAll_cons_mk (shut_bool Try.underlying4 _) (trodAll_cons_mk (Below.trod laidOut (by kernel_rfl) (of_decide_eq_true (by kernel_rfl)) k2 bel lt2) (trodAll_cons_mk (Below.trod laidOut (by kernel_rfl) (of_decide_eq_true (by kernel_rfl)) k3 bel lt3) trodAll_mk0)))), rfl, bel.frame _, fun h => by cases h⟩

/-- THE STATEMENT. -/
theorem holds : Rows.GeomMatchesReferenceSaid :=
  OpenClaim.holds_of_wide 3 Try.f3 rfl rfl rfl rfl rfl rfl rfl ⟨rfl, rfl, rfl, rfl, rfl⟩ rfl rfl rfl rfl rfl (by kernel_rfl) Try.func3 (by kernel_rfl)
    (of_decide_eq_true (by kernel_rfl)) (by unfold Func.isWrapper; first | (rw [if_pos (by decide +kernel)]; kernel_rfl) | (rw [if_neg (by decide +kernel)]; exact ⟨rfl, rfl⟩))
    (fun os started H enc _ => lifted os started H enc)
#print axioms holds
end Go.Proofs.Ytbkbdejmnhpdeaa.geomMatchesReference
