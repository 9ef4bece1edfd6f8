/- Contracts of ArcBound, the reference's Outer; at and fit of the statements of layer 6. The coordinates are bounded. -/
import Derived.Test.YtnpadblfpaiofaaSwA
namespace Go.Proofs.Ytnpadblfpaiofaa
open Go.ChangeShapes Go.WideShapes Go.ChangeAt Go.RowKit
set_option linter.unusedVariables false
set_option linter.unusedSimpArgs false

set_option maxRecDepth 100000 in
set_option maxHeartbeats 2000000 in
theorem arc_is (c1 c2 a1 a2 b1 b2 : Int) (q : Int × Int) (w : World) (k1 : InV c1) (k2 : InV c2) (k3 : InV a1) (k4 : InV a2) (k5 : InV b1) (k6 : InV b2) (hq : Hid (outP (c1, c2) (a1, a2) (b1, b2) = q)) :
    Calls Try.prog 24 #[.agg #[.int .i64 c1, .int .i64 c2], .agg #[.int .i64 a1, .int .i64 a2], .agg #[.int .i64 b1, .int .i64 b2]] w fun e w' => e = .returned (.agg #[.int .i64 q.1, .int .i64 q.2]) ∧ Below w.heap.size w w' := by
  have C := Lib.hid (fun W => beyond_is c1 c2 a1 a2 b1 b2 q W k1 k2 k3 k4 k5 k6 hq)
  obtain ⟨q1, q2⟩ := q
  clear k1 k2 k3 k4 k5 k6 hq
  go_enter Try.func24, Try.ntmps24
  go_upto_region 1 with fail
  have hb4 := (belA (belA (belA (belA (Below.refl _ w) (.cells #[.int .i64 c1, .int .i64 c2] 35)) (.cells #[.int .i64 a1, .int .i64 a2] 35)) (.cells #[.int .i64 b1, .int .i64 b2] 35)) (.cells #[.int .i64 0, .int .i64 0] 35))
  have y1 := (blk_alloc (blk_alloc (blk_alloc (blk_new w (.cells #[.int .i64 c1, .int .i64 c2] 35) (w.heap.size) rfl) (.cells #[.int .i64 a1, .int .i64 a2] 35)) (.cells #[.int .i64 b1, .int .i64 b2] 35)) (.cells #[.int .i64 0, .int .i64 0] 35))
  have y2 := (blk_alloc (blk_alloc (blk_new (w.alloc (.cells #[.int .i64 c1, .int .i64 c2] 35)) (.cells #[.int .i64 a1, .int .i64 a2] 35) (w.heap.size + 1) (by simp)) (.cells #[.int .i64 b1, .int .i64 b2] 35)) (.cells #[.int .i64 0, .int .i64 0] 35))
  have y3 := (blk_alloc (blk_new ((w.alloc (.cells #[.int .i64 c1, .int .i64 c2] 35)).alloc (.cells #[.int .i64 a1, .int .i64 a2] 35)) (.cells #[.int .i64 b1, .int .i64 b2] 35) (w.heap.size + 1 + 1) (by simp)) (.cells #[.int .i64 0, .int .i64 0] 35))
  have y4 := (blk_new (((w.alloc (.cells #[.int .i64 c1, .int .i64 c2] 35)).alloc (.cells #[.int .i64 a1, .int .i64 a2] 35)).alloc (.cells #[.int .i64 b1, .int .i64 b2] 35)) (.cells #[.int .i64 0, .int .i64 0] 35) (w.heap.size + 1 + 1 + 1) (by simp))
  generalize ((((w.alloc (.cells #[.int .i64 c1, .int .i64 c2] 35)).alloc (.cells #[.int .i64 a1, .int .i64 a2] 35)).alloc (.cells #[.int .i64 b1, .int .i64 b2] 35)).alloc (.cells #[.int .i64 0, .int .i64 0] 35)) = w4 at *
  have HB := Lib.hid hb4
  have x1 := blk_cell y1 0 _ rfl
  have x2 := blk_cell y1 1 _ rfl
  have x3 := blk_cell y2 0 _ rfl
  have x4 := blk_cell y2 1 _ rfl
  have x5 := blk_cell y3 0 _ rfl
  have x6 := blk_cell y3 1 _ rfl
  have x7 := blk_cell y4 0 _ rfl
  have x8 := blk_cell y4 1 _ rfl
  have f1 := blk_fz y4 0
  have f2 := blk_fz y4 1
  have Y := Lib.hid y4
  have hz := HB.out.size
  clear hb4 y1 y2 y3 y4
  go_wp2_with fail
  refine (C.out _).mono ?_
  rintro e w5 ⟨rfl, hb5⟩
  have Y5 := Lib.hid (blk_call Y.out hb5)
  have HB5 := Lib.hid (belT HB.out hb5)
  have g1 := blk_cell Y5.out 0 _ rfl
  have g2 := blk_cell Y5.out 1 _ rfl
  have g3 := blk_fz Y5.out 0
  have g4 := blk_fz Y5.out 1
  clear hb5
  go_wp2
  have z' := blk_set (j := 0) Y5.out (.int .i64 q1)
  have z0 := blk_cell z' 0 _ rfl
  have z := blk_set (j := 1) z' (.int .i64 q2)
  have z1 := blk_cell z 1 _ rfl
  have z2 := blk_cell z 0 _ rfl
  refine bodyPost_ret (v := .agg #[.int .i64 q1, .int .i64 q2]) (by simp [results, Try.results24, go_sem, z0, z1, z2]) rfl ⟨rfl, ?_⟩
  exact belS (p := ⟨w.heap.size + 1 + 1 + 1, 1, none⟩) (belS (p := ⟨w.heap.size + 1 + 1 + 1, 0, none⟩) HB5.out (show w.heap.size ≤ w.heap.size + 1 + 1 + 1 by omega) _) (show w.heap.size ≤ w.heap.size + 1 + 1 + 1 by omega) _

set_option maxRecDepth 100000 in
set_option maxHeartbeats 4000000 in
theorem outer_is (c1 c2 a1 a2 b1 b2 : Int) (q : Int × Int) (w : World) (k1 : InV c1) (k2 : InV c2) (k3 : InV a1) (k4 : InV a2) (k5 : InV b1) (k6 : InV b2) (hq : Hid (outP (c1, c2) (a1, a2) (b1, b2) = q)) :
    Calls Try.prog 25 #[.agg #[.int .i64 c1, .int .i64 c2], .agg #[.int .i64 a1, .int .i64 a2], .agg #[.int .i64 b1, .int .i64 b2]] w fun e w' => e = .returned (.agg #[.int .i64 q.1, .int .i64 q.2]) ∧ Below w.heap.size w w' := by
  have h1 := str_bd k1 k3 k5
  have h2 := str_bd k2 k4 k6
  obtain ⟨q1, q2⟩ := q
  have e1 : Hid (strI c1 a1 b1 = q1) := Lib.hid (congrArg Prod.fst hq.out)
  have e2 : Hid (strI c2 a2 b2 = q2) := Lib.hid (congrArg Prod.snd hq.out)
  unfold strI at e1 e2
  unfold InV at k1 k2 k3 k4 k5 k6
  obtain ⟨d1, hd1⟩ : ∃ d, (9 * (a1 + b1 - 2 * c1)).tdiv 16 = d := ⟨_, rfl⟩
  obtain ⟨d2, hd2⟩ : ∃ d, (9 * (a2 + b2 - 2 * c2)).tdiv 16 = d := ⟨_, rfl⟩
  rw [hd1] at e1 h1
  rw [hd2] at e2 h2
  have : IntKind.i64.wrap (a1 + b1) = a1 + b1 := by rw [IntKind.wrap_i64]; omega
  have : IntKind.i64.wrap (2 * c1) = 2 * c1 := by rw [IntKind.wrap_i64]; omega
  have : IntKind.i64.wrap (a1 + b1 - 2 * c1) = a1 + b1 - 2 * c1 := by rw [IntKind.wrap_i64]; omega
  have : IntKind.i64.wrap (9 * (a1 + b1 - 2 * c1)) = 9 * (a1 + b1 - 2 * c1) := by rw [IntKind.wrap_i64]; omega
  have : IntKind.i64.wrap (d1) = d1 := by rw [IntKind.wrap_i64]; omega
  have : IntKind.i64.wrap (c1 + d1) = c1 + d1 := by rw [IntKind.wrap_i64]; omega
  have : IntKind.i64.wrap (a2 + b2) = a2 + b2 := by rw [IntKind.wrap_i64]; omega
  have : IntKind.i64.wrap (2 * c2) = 2 * c2 := by rw [IntKind.wrap_i64]; omega
  have : IntKind.i64.wrap (a2 + b2 - 2 * c2) = a2 + b2 - 2 * c2 := by rw [IntKind.wrap_i64]; omega
  have : IntKind.i64.wrap (9 * (a2 + b2 - 2 * c2)) = 9 * (a2 + b2 - 2 * c2) := by rw [IntKind.wrap_i64]; omega
  have : IntKind.i64.wrap (d2) = d2 := by rw [IntKind.wrap_i64]; omega
  have : IntKind.i64.wrap (c2 + d2) = c2 + d2 := by rw [IntKind.wrap_i64]; omega
  obtain rfl := e1.out
  obtain rfl := e2.out
  clear k1 k2 k3 k4 k5 k6 hq h1 h2 e1 e2
  go_enter Try.func25, Try.ntmps25
  go_wp2
  refine bodyPost_ret (v := .agg #[.int .i64 (c1 + d1), .int .i64 (c2 + d2)]) (by simp [results, Try.results25, go_sem]) rfl ⟨rfl, ?_⟩
  exact belA (belA (belA (belA (Below.refl _ w) _) _) _) _

set_option maxRecDepth 100000 in
theorem at_is (x y : Int) (w : World) : Calls Try.prog 32 #[.int .i64 x, .int .i64 y] w fun e w' => e = .returned (.agg #[.int .i64 x, .int .i64 y]) ∧ Below w.heap.size w w' := by
  go_enter Try.func32, Try.ntmps32
  go_wp2
  refine bodyPost_ret (v := .agg #[.int .i64 x, .int .i64 y]) (by simp [results, Try.results32, go_sem]) rfl ⟨rfl, ?_⟩
  exact belA (Below.refl _ w) _

def fitI (x : Int) : Int := x.tmod 10000001
def fitP (p : Int × Int) : Int × Int := (fitI p.1, fitI p.2)
theorem fit_bd (x : Int) : -10000000 ≤ fitI x ∧ fitI x ≤ 10000000 := by
  unfold fitI
  by_cases h : 0 ≤ x
  · rw [Int.tmod_eq_emod_of_nonneg h]; omega
  · have e : x.tmod 10000001 = -((-x).tmod 10000001) := by rw [Int.neg_tmod, Int.neg_neg]
    rw [e, Int.tmod_eq_emod_of_nonneg (by omega)]; omega
theorem fit_inV (x : Int) : InV (fitI x) := by have := fit_bd x; unfold InV; omega
set_option maxRecDepth 100000 in
theorem fit_is (x y u v : Int) (w : World) (hu : Hid (fitI x = u)) (hv : Hid (fitI y = v)) : Calls Try.prog 22 #[.agg #[.int .i64 x, .int .i64 y]] w fun e w' => e = .returned (.agg #[.int .i64 u, .int .i64 v]) ∧ Below w.heap.size w w' := by
  have h1 := fit_bd x
  have h2 := fit_bd y
  obtain rfl := hu.out
  obtain rfl := hv.out
  clear hu hv
  unfold fitI at h1 h2 ⊢
  have w1 : IntKind.i64.wrap (x.tmod 10000001) = x.tmod 10000001 := by rw [IntKind.wrap_i64]; omega
  have w2 : IntKind.i64.wrap (y.tmod 10000001) = y.tmod 10000001 := by rw [IntKind.wrap_i64]; omega
  obtain ⟨u, hu⟩ : ∃ u, x.tmod 10000001 = u := ⟨_, rfl⟩
  obtain ⟨v, hv⟩ : ∃ v, y.tmod 10000001 = v := ⟨_, rfl⟩
  rw [hu] at w1 ⊢
  rw [hv] at w2 ⊢
  clear h1 h2
  go_enter Try.func22, Try.ntmps22
  go_upto_region 1 with fail
  have hb4 := (belA (belA (Below.refl _ w) (.cells #[.int .i64 x, .int .i64 y] 35)) (.cells #[.int .i64 0, .int .i64 0] 35))
  have y1 := (blk_alloc (blk_new w (.cells #[.int .i64 x, .int .i64 y] 35) (w.heap.size) rfl) (.cells #[.int .i64 0, .int .i64 0] 35))
  have y2 := (blk_new (w.alloc (.cells #[.int .i64 x, .int .i64 y] 35)) (.cells #[.int .i64 0, .int .i64 0] 35) (w.heap.size + 1) (by simp))
  generalize ((w.alloc (.cells #[.int .i64 x, .int .i64 y] 35)).alloc (.cells #[.int .i64 0, .int .i64 0] 35)) = w4 at *
  have HB := Lib.hid hb4
  have x1 := blk_cell y1 0 _ rfl
  have x2 := blk_cell y1 1 _ rfl
  have x3 := blk_cell y2 0 _ rfl
  have x4 := blk_cell y2 1 _ rfl
  have f1 := blk_fz y2 0
  have f2 := blk_fz y2 1
  have Y := Lib.hid y2
  have hz := HB.out.size
  clear hb4 y1 y2
  go_wp2_with fail
  refine (at_is u v _).mono ?_
  rintro e w5 ⟨rfl, hb5⟩
  have Y5 := Lib.hid (blk_call Y.out hb5)
  have HB5 := Lib.hid (belT HB.out hb5)
  have g1 := blk_cell Y5.out 0 _ rfl
  have g2 := blk_cell Y5.out 1 _ rfl
  have g3 := blk_fz Y5.out 0
  have g4 := blk_fz Y5.out 1
  clear hb5
  go_wp2
  have z' := blk_set (j := 0) Y5.out (.int .i64 u)
  have z0 := blk_cell z' 0 _ rfl
  have z := blk_set (j := 1) z' (.int .i64 v)
  have z1 := blk_cell z 1 _ rfl
  have z2 := blk_cell z 0 _ rfl
  refine bodyPost_ret (v := .agg #[.int .i64 u, .int .i64 v]) (by simp [results, Try.results22, go_sem, z0, z1, z2]) rfl ⟨rfl, ?_⟩
  exact belS (p := ⟨w.heap.size + 1, 1, none⟩) (belS (p := ⟨w.heap.size + 1, 0, none⟩) HB5.out (show w.heap.size ≤ w.heap.size + 1 by omega) _) (show w.heap.size ≤ w.heap.size + 1 by omega) _

end Go.Proofs.Ytnpadblfpaiofaa
