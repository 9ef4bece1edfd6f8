/- Helpers: what the law reaches. -/
import Derived.StillTailTactics
import Derived.Laws.MakeOwn
import Derived.Laws.AppendOwn
import Derived.Test.YtalhkcmlacppjaaGreatDoorZsHlB
import Derived.Test.YtalhkcmlacppjaaGreatDoorZsHlE
import Derived.Test.YtalhkcmlacppjaaGreatDoorZsRgn
import Derived.Test.YtalhkcmlacppjaaGreatDoorZsHlH
namespace Go.Proofs.YtalhkcmlacppjaaGreatDoor
open Go.ChangeShapes Go.WideShapes Go.ChangeAt Go.RowKit
set_option linter.unusedVariables false
set_option linter.unusedSimpArgs false

/-- A coordinate of an outer point. -/
def strI (c a b : Int) : Int := c + (9 * (a + b - 2 * c)).tdiv 16
def outP (o a b : Int × Int) : Int × Int := (strI o.1 a.1 b.1, strI o.2 a.2 b.2)
theorem str_bd {c a b : Int} (hc : InV c) (ha : InV a) (hb : InV b) : -2000000000 ≤ (9 * (a + b - 2 * c)).tdiv 16 ∧ (9 * (a + b - 2 * c)).tdiv 16 ≤ 2000000000 := by
  unfold InV at *
  obtain ⟨x, hx⟩ : ∃ x, 9 * (a + b - 2 * c) = x := ⟨_, rfl⟩
  rw [hx]
  by_cases h : 0 ≤ x
  · rw [Int.tdiv_eq_ediv_of_nonneg h]; omega
  · have e : x.tdiv 16 = -((-x).tdiv 16) := by rw [Int.neg_tdiv, Int.neg_neg]
    rw [e, Int.tdiv_eq_ediv_of_nonneg (by omega)]; omega

set_option maxHeartbeats 1000000 in
theorem stretch_is (c a b s : Int) (w : World) (hc : InV c) (ha : InV a) (hb : InV b) (hs : Hid (strI c a b = s)) :
    Calls Tryz.prog 90 #[.int .i64 c, .int .i64 a, .int .i64 b] w fun e w' => e = .returned (.int .i64 s) ∧ w' = w := by
  have h0 := str_bd hc ha hb
  unfold strI at hs
  unfold InV at hc ha hb
  obtain ⟨d, hd⟩ : ∃ d, (9 * (a + b - 2 * c)).tdiv 16 = d := ⟨_, rfl⟩
  rw [hd] at hs h0
  have w1 : IntKind.i64.wrap (a + b) = a + b := by rw [IntKind.wrap_i64]; omega
  have w2 : IntKind.i64.wrap (2 * c) = 2 * c := by rw [IntKind.wrap_i64]; omega
  have w3 : IntKind.i64.wrap (a + b - 2 * c) = a + b - 2 * c := by rw [IntKind.wrap_i64]; omega
  have w4 : IntKind.i64.wrap (9 * (a + b - 2 * c)) = 9 * (a + b - 2 * c) := by rw [IntKind.wrap_i64]; omega
  have w5 : IntKind.i64.wrap d = d := by rw [IntKind.wrap_i64]; omega
  have w6 : IntKind.i64.wrap (c + d) = c + d := by rw [IntKind.wrap_i64]; omega
  go_enter Tryz.func90, Tryz.ntmps90
  go_wp2
  go_ret
  exact ⟨ret_int hs.out, rfl⟩

set_option maxRecDepth 100000 in
set_option maxHeartbeats 2000000 in
theorem beyond_is (c1 c2 a1 a2 b1 b2 : Int) (q : Int × Int) (w : World) (k1 : InV c1) (k2 : InV c2) (k3 : InV a1) (k4 : InV a2) (k5 : InV b1) (k6 : InV b2) (hq : Hid (outP (c1, c2) (a1, a2) (b1, b2) = q)) :
    Calls Tryz.prog 59 #[.agg #[.int .i64 c1, .int .i64 c2], .agg #[.int .i64 a1, .int .i64 a2], .agg #[.int .i64 b1, .int .i64 b2]] w fun e w' => e = .returned (.agg #[.int .i64 q.1, .int .i64 q.2]) ∧ Below w.heap.size w w' := by
  obtain ⟨q1, q2⟩ := q
  have e1 : Hid (strI c1 a1 b1 = q1) := Lib.hid (congrArg Prod.fst hq.out)
  have e2 : Hid (strI c2 a2 b2 = q2) := Lib.hid (congrArg Prod.snd hq.out)
  have C1 := Lib.hid (fun W => stretch_is c1 a1 b1 q1 W k1 k3 k5 e1)
  have C2 := Lib.hid (fun W => stretch_is c2 a2 b2 q2 W k2 k4 k6 e2)
  clear k1 k2 k3 k4 k5 k6
  go_enter Tryz.func59, Tryz.ntmps59
  go_wp2
  have hb4 : Below w.heap.size w ((((w.alloc (.cells #[.int .i64 c1, .int .i64 c2] 95)).alloc (.cells #[.int .i64 a1, .int .i64 a2] 23)).alloc (.cells #[.int .i64 b1, .int .i64 b2] 23)).alloc (.cells #[.int .i64 0, .int .i64 0] 23)) := belA (belA (belA (belA (Below.refl _ w) _) _) _) _
  have y1 := blk_alloc (blk_alloc (blk_alloc (blk_new w (.cells #[.int .i64 c1, .int .i64 c2] 95) w.heap.size rfl) (.cells #[.int .i64 a1, .int .i64 a2] 23)) (.cells #[.int .i64 b1, .int .i64 b2] 23)) (.cells #[.int .i64 0, .int .i64 0] 23)
  have y2 := blk_alloc (blk_alloc (blk_new (w.alloc (.cells #[.int .i64 c1, .int .i64 c2] 95)) (.cells #[.int .i64 a1, .int .i64 a2] 23) (w.heap.size + 1) (by simp)) (.cells #[.int .i64 b1, .int .i64 b2] 23)) (.cells #[.int .i64 0, .int .i64 0] 23)
  have y3 := blk_alloc (blk_new ((w.alloc (.cells #[.int .i64 c1, .int .i64 c2] 95)).alloc (.cells #[.int .i64 a1, .int .i64 a2] 23)) (.cells #[.int .i64 b1, .int .i64 b2] 23) (w.heap.size + 1 + 1) (by simp)) (.cells #[.int .i64 0, .int .i64 0] 23)
  have y4 := blk_new (((w.alloc (.cells #[.int .i64 c1, .int .i64 c2] 95)).alloc (.cells #[.int .i64 a1, .int .i64 a2] 23)).alloc (.cells #[.int .i64 b1, .int .i64 b2] 23)) (.cells #[.int .i64 0, .int .i64 0] 23) (w.heap.size + 1 + 1 + 1) (by simp)
  generalize (((w.alloc (.cells #[.int .i64 c1, .int .i64 c2] 95)).alloc (.cells #[.int .i64 a1, .int .i64 a2] 23)).alloc (.cells #[.int .i64 b1, .int .i64 b2] 23)).alloc (.cells #[.int .i64 0, .int .i64 0] 23) = w4 at *
  have HB := Lib.hid hb4
  have x1 := blk_cell y1 0 _ rfl
  have x2 := blk_cell y1 1 _ rfl
  have x3 := blk_cell y2 0 _ rfl
  have x4 := blk_cell y2 1 _ rfl
  have x5 := blk_cell y3 0 _ rfl
  have x6 := blk_cell y3 1 _ rfl
  have x7 := blk_cell y4 0 _ rfl
  have x8 := blk_cell y4 1 _ rfl
  have hz := HB.out.size
  have f7 := blk_fz y4 0
  have f8 := blk_fz y4 1
  have Y4 := Lib.hid y4
  clear y1 y2 y3 y4 hb4
  refine wp_region_still_tail 15 mixedP (by kernel_rfl) ?_
  simp only [List.take_succ_cons, List.take_zero, List.drop_succ_cons, List.drop_zero]
  iterate 6 still_step
  still_call (C1.out _)
  iterate 6 still_step
  still_call (C2.out _)
  iterate 1 still_step
  refine wpStill_nil ?_
  go_wp2
  have z' := blk_set (j := 0) Y4.out (.int .i64 q1)
  have z0 := blk_cell z' 0 _ rfl
  have z := blk_set (j := 1) z' (.int .i64 q2)
  have z1 := blk_cell z 1 _ rfl
  have z2 := blk_cell z 0 _ rfl
  refine bodyPost_ret (v := .agg #[.int .i64 q1, .int .i64 q2]) (by simp [results, Tryz.results59, go_sem, z0, z1, z2]) rfl ⟨rfl, ?_⟩
  exact (belS (belS HB.out (by simp; omega) _) (by simp; omega) _).drew
end Go.Proofs.YtalhkcmlacppjaaGreatDoor

namespace Go.Proofs.YtalhkcmlacppjaaGreatDoor
open Go.ChangeShapes Go.WideShapes Go.ChangeAt Go.RowKit
set_option linter.unusedVariables false
set_option linter.unusedSimpArgs false

def outL (o : Int × Int) (a b : List (Int × Int)) : List (Int × Int) := List.zipWith (outP o) a b
theorem outL_len (o : Int × Int) (a b : List (Int × Int)) (h : a.length = b.length) : (outL o a b).length = a.length := by unfold outL; rw [List.length_zipWith, h, Nat.min_self]
theorem outL_at (o : Int × Int) (a b : List (Int × Int)) (h : a.length = b.length) {k : Nat} (hk : k < a.length) : gp (outL o a b) k = outP o (gp a k) (gp b k) := by
  rw [gp_lt (by rw [outL_len o a b h]; exact hk), gp_lt hk, gp_lt (by omega)]
  unfold outL
  rw [List.getElem_zipWith]

/-- A block of the call's own whose first k points are those of us. -/
def Fill (w : World) (g n k : Nat) (us : List (Int × Int)) : Prop := ∃ vs : Array Value, w.heap[g]? = some (.cells vs 23 (0, 0)) ∧ vs.size = n * 2 ∧ ∀ i, i < k → vs[i * 2]? = some (.int .i64 (cx us i)) ∧ vs[i * 2 + 1]? = some (.int .i64 (cy us i))
theorem fill_row {w : World} {g n : Nat} {us : List (Int × Int)} (h : Fill w g n n us) (hn : us.length = n) : PRow w (some ⟨g, 0, none⟩) us := fun i hi => by
  obtain ⟨vs, h1, h2, h3⟩ := h
  obtain ⟨a, b⟩ := h3 i (by omega)
  exact ⟨g, 0, rfl, by rw [Nat.zero_add]; exact blk_cell h1 _ _ a, by rw [Nat.zero_add]; exact blk_cell h1 _ _ b⟩
theorem fill_set {w : World} {g n k : Nat} {us : List (Int × Int)} {x y : Int} (h : Fill w g n k us) (hk : k < n) (hx : cx us k = x) (hy : cy us k = y) : Fill ((w.setCell ⟨g, k * 2, none⟩ (.int .i64 x)).setCell ⟨g, k * 2 + 1, none⟩ (.int .i64 y)) g n (k + 1) us := by
  obtain ⟨vs, h1, h2, h3⟩ := h
  refine ⟨_, blk_set (blk_set h1 _) _, by simp [h2], fun i hi => ?_⟩
  by_cases e : i = k
  · subst e
    constructor
    · rw [Array.getElem?_setIfInBounds_ne (by omega), Array.getElem?_setIfInBounds_self_of_lt (by omega), hx]
    · rw [Array.getElem?_setIfInBounds_self_of_lt (by simp; omega), hy]
  · obtain ⟨a, b⟩ := h3 i (by omega)
    constructor
    · rw [Array.getElem?_setIfInBounds_ne (by omega), Array.getElem?_setIfInBounds_ne (by omega), a]
    · rw [Array.getElem?_setIfInBounds_ne (by omega), Array.getElem?_setIfInBounds_ne (by omega), b]
theorem fill_call {w w' : World} {g n k : Nat} {us : List (Int × Int)} (h : Fill w g n k us) (hb : Below w.heap.size w w') : Fill w' g n k us := by
  obtain ⟨vs, h1, h2, h3⟩ := h
  exact ⟨vs, blk_call h1 hb, h2, h3⟩

set_option maxRecDepth 100000 in
set_option maxHeartbeats 8000000 in
theorem combine_is (ao bo : Option Addr) (n ca cb : Nat) (c1 c2 : Int) (a b us : List (Int × Int)) (w : World) (hn : a.length = n) (hm : b.length = n) (hu : Hid (outL (c1, c2) a b = us)) (hle : n ≤ 1000) (hA : PRow w ao a) (hB : PRow w bo b) (hVA : AllV a) (hVB : AllV b) (k1 : InV c1) (k2 : InV c2) :
    Calls Tryz.prog 58 #[.slice ao n ca, .slice bo n cb, .func (.func 59) #[.agg #[.int .i64 c1, .int .i64 c2]] #[]] w fun e w' => (∃ g, e = .returned (.slice (some ⟨g, 0, none⟩) n n) ∧ PRow w' (some ⟨g, 0, none⟩) us) ∧ Below w.heap.size w w' := by
  obtain ⟨i0, hi, hz0, hz1', hz2⟩ := info_parts infoP
  have mk := run_make (P := Tryz.prog) w 29 23 i0 _ Tryz.underlying29 hi hz0 .i64 .i64 (n : Int) (n : Int) (by omega) (by omega) (by rw [hz2]; omega) (by omega)
  rw [hz1', Int.toNat_natCast] at mk
  have hml : (n : Int).toNat = n := Int.toNat_natCast n
  have PA := Lib.hid hA
  have PB := Lib.hid hB
  have VA := Lib.hid hVA
  have VB := Lib.hid hVB
  have K := Lib.hid (And.intro k1 k2)
  have N1 := Lib.hid hn
  have N2 := Lib.hid hm
  have hul : Hid (us.length = n) := Lib.hid (by rw [← hu.out, outL_len _ _ _ (by omega), hn])
  clear hA hB hVA hVB k1 k2 hn hm
  go_enter Tryz.func58, Tryz.ntmps58
  go_wp2
  obtain ⟨ob, hob⟩ : ∃ ob, Obj.cells (Go.madeCells #[.int .i64 0, .int .i64 0] (n * 2)) 23 = ob := ⟨_, rfl⟩
  have hF0 : Fill (w.alloc ob) w.heap.size n 0 us := by rw [← hob]; exact ⟨_, blk_new _ _ _ rfl, size_madeCells _ _, fun i hi => by omega⟩
  rw [hob]
  have hB1 := belA (Below.refl _ w) ob
  clear hob mk
  generalize w.alloc ob = w1 at *
  obtain ⟨g, hg⟩ : ∃ g, w.heap.size = g := ⟨_, rfl⟩
  rw [hg] at hF0 ⊢
  go_loopw [14] (fun s wr => ∃ k : Nat, k ≤ n ∧ s = .int .i64 k ∧ Fill wr g n k us ∧ Below w.heap.size w wr) (fun s _ => n - (intOf s).toNat)
  case atStart => exact ⟨0, Nat.zero_le _, rfl, hF0, hB1⟩
  case round =>
    obtain ⟨k, hk, rfl, hF, hB⟩ := hrel
    have HF := Lib.hid hF
    have HB := Lib.hid hB
    clear hF hB hF0 hB1
    by_cases hkn : k < n
    · have hki : (k : Int) < n := by omega
      obtain ⟨p, q, rfl, c1', c2'⟩ := prow_at (prow_below PA.out HB.out) (i := k) (by rw [N1.out]; exact hkn)
      obtain ⟨p', q', rfl, c3', c4'⟩ := prow_at (prow_below PB.out HB.out) (i := k) (by rw [N2.out]; exact hkn)
      have va := VA.out k (by rw [N1.out]; exact hkn)
      have vb := VB.out k (by rw [N2.out]; exact hkn)
      have e := outL_at (c1, c2) a b (by rw [N1.out, N2.out]) (k := k) (by rw [N1.out]; exact hkn)
      rw [hu.out] at e
      obtain ⟨r, hr⟩ : ∃ r, outP (c1, c2) (cx a k, cy a k) (cx b k, cy b k) = r := ⟨_, rfl⟩
      have e' : gp us k = r := e.trans hr
      have R1 : Hid (cx us k = r.1) := Lib.hid (congrArg Prod.fst e')
      have R2 : Hid (cy us k = r.2) := Lib.hid (congrArg Prod.snd e')
      have C := Lib.hid (fun W => beyond_is c1 c2 (cx a k) (cy a k) (cx b k) (cy b k) r W K.out.1 K.out.2 va.1 va.2 vb.1 vb.2 (Lib.hid hr))
      clear e e' hr va vb
      generalize cx a k = x1 at *
      generalize cy a k = x2 at *
      generalize cx b k = y1 at *
      generalize cy b k = y2 at *
      go_upto_region 5 with fail
      obtain ⟨sp, hsp⟩ : ∃ sp : ToldS, sp = [none, none, none, none, none, none, none, none, none, none, none, none, none, none, none, none, none, some (eqS (.slice (some ⟨g, 0, none⟩) n n)), some (eqS (.int .i64 (k : Int))), some (eqS (.func (.func 59) #[.agg #[.int .i64 c1, .int .i64 c2]] #[])), some (eqS (.slice (some ⟨p, q, none⟩) n ca)), some (eqS (.int .i64 (k : Int))), some (eqS (.pointer (some ⟨p, q + k * 2, none⟩))), some (eqS (.agg #[.int .i64 x1, .int .i64 x2])), some (eqS (.slice (some ⟨p', q', none⟩) n cb)), some (eqS (.int .i64 (k : Int))), some (eqS (.pointer (some ⟨p', q' + k * 2, none⟩))), some (eqS (.agg #[.int .i64 y1, .int .i64 y2])), some (eqS (.agg #[.int .i64 r.1, .int .i64 r.2])), some (eqS (.pointer (some ⟨g, k * 2, none⟩)))] := ⟨_, rfl⟩
      have s17 : sp.getD 17 none = some (eqS (.slice (some ⟨g, 0, none⟩) n n)) := by rw [hsp]; rfl
      have s18 : sp.getD 18 none = some (eqS (.int .i64 (k : Int))) := by rw [hsp]; rfl
      have s19 : sp.getD 19 none = some (eqS (.func (.func 59) #[.agg #[.int .i64 c1, .int .i64 c2]] #[])) := by rw [hsp]; rfl
      have s20 : sp.getD 20 none = some (eqS (.slice (some ⟨p, q, none⟩) n ca)) := by rw [hsp]; rfl
      have s21 : sp.getD 21 none = some (eqS (.int .i64 (k : Int))) := by rw [hsp]; rfl
      have s22 : sp.getD 22 none = some (eqS (.pointer (some ⟨p, q + k * 2, none⟩))) := by rw [hsp]; rfl
      have s23 : sp.getD 23 none = some (eqS (.agg #[.int .i64 x1, .int .i64 x2])) := by rw [hsp]; rfl
      have s24 : sp.getD 24 none = some (eqS (.slice (some ⟨p', q', none⟩) n cb)) := by rw [hsp]; rfl
      have s25 : sp.getD 25 none = some (eqS (.int .i64 (k : Int))) := by rw [hsp]; rfl
      have s26 : sp.getD 26 none = some (eqS (.pointer (some ⟨p', q' + k * 2, none⟩))) := by rw [hsp]; rfl
      have s27 : sp.getD 27 none = some (eqS (.agg #[.int .i64 y1, .int .i64 y2])) := by rw [hsp]; rfl
      have s28 : sp.getD 28 none = some (eqS (.agg #[.int .i64 r.1, .int .i64 r.2])) := by rw [hsp]; rfl
      have s29 : sp.getD 29 none = some (eqS (.pointer (some ⟨g, k * 2, none⟩))) := by rw [hsp]; rfl
      clear hsp
      refine (wpIn_wide (n := 0)).1 (region_headR (RtS sp) (rtS_keep sp) 13 rfl rfl rfl (by kernel_rfl) (by decide) (by kernel_rfl) (by kernel_rfl) (by kernel_rfl) ?_ ?_)
      · intro Q'; show ObsR _ _ _ _ _ _ _ _ (List.take _ _); simp only [List.take_succ_cons, List.take_zero]
        refine obsR_cons ?_ ?_
        · intro T wx K hB hF hD hK
          have g7 : T[7]? = some (.slice (some ⟨g, 0, none⟩) n n) := hF 7 (freeM_of (by kernel_rfl))
          refine ob_yes (wanted_none rfl) ?_
          clear hF hD
          go_simp
          exact hK _ _ (Below.refl _ _) (rt_eqS s17)
        refine obsR_cons ?_ ?_
        · intro T wx K hB hF hD hK
          have g8 : T[8]? = some (.int .i64 (k : Int)) := hF 8 (freeM_of (by kernel_rfl))
          refine ob_yes (wanted_none rfl) ?_
          clear hF hD
          go_simp
          exact hK _ _ (Below.refl _ _) (rt_eqS s18)
        refine obsR_cons ?_ ?_
        · intro T wx K hB hF hD hK
          have g2 : T[2]? = some (.func (.func 59) #[.agg #[.int .i64 c1, .int .i64 c2]] #[]) := hF 2 (freeM_of (by kernel_rfl))
          refine ob_yes (wanted_none rfl) ?_
          clear hF hD
          go_simp
          exact hK _ _ (Below.refl _ _) (rt_eqS s19)
        refine obsR_cons ?_ ?_
        · intro T wx K hB hF hD hK
          have g0 : T[0]? = some (.slice (some ⟨p, q, none⟩) n ca) := hF 0 (freeM_of (by kernel_rfl))
          refine ob_yes (wanted_none rfl) ?_
          clear hF hD
          go_simp
          exact hK _ _ (Below.refl _ _) (rt_eqS s20)
        refine obsR_cons ?_ ?_
        · intro T wx K hB hF hD hK
          have g8 : T[8]? = some (.int .i64 (k : Int)) := hF 8 (freeM_of (by kernel_rfl))
          refine ob_yes (wanted_none rfl) ?_
          clear hF hD
          go_simp
          exact hK _ _ (Below.refl _ _) (rt_eqS s21)
        refine obsR_cons ?_ ?_
        · intro T wx K hB hF hD hK
          have g20 := get_eqS (hD 3 20 (by simp [Region.binds]) (by kernel_rfl)) s20
          have g21 := get_eqS (hD 4 21 (by simp [Region.binds]) (by kernel_rfl)) s21
          refine ob_yes (wanted_none rfl) ?_
          clear hF hD
          go_simp
          exact hK _ _ (Below.refl _ _) (rt_eqS s22)
        refine obsR_cons ?_ ?_
        · intro T wx K hB hF hD hK
          have g22 := get_eqS (hD 5 22 (by simp [Region.binds]) (by kernel_rfl)) s22
          refine ob_yes (wanted_none rfl) ?_
          clear hF hD
          have d1 := cell_call c1' hB
          have d2 := cell_call c2' hB
          go_simp
          exact hK _ _ (Below.refl _ _) (rt_eqS s23)
        refine obsR_cons ?_ ?_
        · intro T wx K hB hF hD hK
          have g1 : T[1]? = some (.slice (some ⟨p', q', none⟩) n cb) := hF 1 (freeM_of (by kernel_rfl))
          refine ob_yes (wanted_none rfl) ?_
          clear hF hD
          go_simp
          exact hK _ _ (Below.refl _ _) (rt_eqS s24)
        refine obsR_cons ?_ ?_
        · intro T wx K hB hF hD hK
          have g8 : T[8]? = some (.int .i64 (k : Int)) := hF 8 (freeM_of (by kernel_rfl))
          refine ob_yes (wanted_none rfl) ?_
          clear hF hD
          go_simp
          exact hK _ _ (Below.refl _ _) (rt_eqS s25)
        refine obsR_cons ?_ ?_
        · intro T wx K hB hF hD hK
          have g24 := get_eqS (hD 7 24 (by simp [Region.binds]) (by kernel_rfl)) s24
          have g25 := get_eqS (hD 8 25 (by simp [Region.binds]) (by kernel_rfl)) s25
          refine ob_yes (wanted_none rfl) ?_
          clear hF hD
          go_simp
          exact hK _ _ (Below.refl _ _) (rt_eqS s26)
        refine obsR_cons ?_ ?_
        · intro T wx K hB hF hD hK
          have g26 := get_eqS (hD 9 26 (by simp [Region.binds]) (by kernel_rfl)) s26
          refine ob_yes (wanted_none rfl) ?_
          clear hF hD
          have d3 := cell_call c3' hB
          have d4 := cell_call c4' hB
          go_simp
          exact hK _ _ (Below.refl _ _) (rt_eqS s27)
        refine obsR_cons ?_ ?_
        · intro T wx K hB hF hD hK
          have g19 := get_eqS (hD 2 19 (by simp [Region.binds]) (by kernel_rfl)) s19
          have g23 := get_eqS (hD 6 23 (by simp [Region.binds]) (by kernel_rfl)) s23
          have g27 := get_eqS (hD 10 27 (by simp [Region.binds]) (by kernel_rfl)) s27
          refine ob_yes (wanted_none rfl) ?_
          clear hF hD
          go_simp
          refine (C.out _).mono ?_; rintro e w9 ⟨rfl, hb⟩
          exact hK _ _ hb (rt_eqS s28)
        refine obsR_cons ?_ ?_
        · intro T wx K hB hF hD hK
          have g17 := get_eqS (hD 0 17 (by simp [Region.binds]) (by kernel_rfl)) s17
          have g18 := get_eqS (hD 1 18 (by simp [Region.binds]) (by kernel_rfl)) s18
          refine ob_yes (wanted_none rfl) ?_
          clear hF hD
          go_simp
          exact hK _ _ (Below.refl _ _) (rt_eqS s29)
        exact obsR_nil
      · intro T w8 hb hF hs hD
        have g17 := get_eqS (hD 0 17 (by decide) (by kernel_rfl)) s17
        have g18 := get_eqS (hD 1 18 (by decide) (by kernel_rfl)) s18
        have g19 := get_eqS (hD 2 19 (by decide) (by kernel_rfl)) s19
        have g20 := get_eqS (hD 3 20 (by decide) (by kernel_rfl)) s20
        have g21 := get_eqS (hD 4 21 (by decide) (by kernel_rfl)) s21
        have g22 := get_eqS (hD 5 22 (by decide) (by kernel_rfl)) s22
        have g23 := get_eqS (hD 6 23 (by decide) (by kernel_rfl)) s23
        have g24 := get_eqS (hD 7 24 (by decide) (by kernel_rfl)) s24
        have g25 := get_eqS (hD 8 25 (by decide) (by kernel_rfl)) s25
        have g26 := get_eqS (hD 9 26 (by decide) (by kernel_rfl)) s26
        have g27 := get_eqS (hD 10 27 (by decide) (by kernel_rfl)) s27
        have g28 := get_eqS (hD 11 28 (by decide) (by kernel_rfl)) s28
        have g29 := get_eqS (hD 12 29 (by decide) (by kernel_rfl)) s29
        have hT := conc [(17, .slice (some ⟨g, 0, none⟩) n n), (18, .int .i64 (k : Int)), (19, .func (.func 59) #[.agg #[.int .i64 c1, .int .i64 c2]] #[]), (20, .slice (some ⟨p, q, none⟩) n ca), (21, .int .i64 (k : Int)), (22, .pointer (some ⟨p, q + k * 2, none⟩)), (23, .agg #[.int .i64 x1, .int .i64 x2]), (24, .slice (some ⟨p', q', none⟩) n cb), (25, .int .i64 (k : Int)), (26, .pointer (some ⟨p', q' + k * 2, none⟩)), (27, .agg #[.int .i64 y1, .int .i64 y2]), (28, .agg #[.int .i64 r.1, .int .i64 r.2]), (29, .pointer (some ⟨g, k * 2, none⟩))] hs hF (by simp only [List.forall_mem_cons]; exact ⟨g17, g18, g19, g20, g21, g22, g23, g24, g25, g26, g27, g28, g29, fun p hp => absurd hp List.not_mem_nil⟩) (by kernel_rfl)
        simp only [List.foldl, List.setIfInBounds_toArray, List.set_cons_succ, List.set_cons_zero] at hT
        subst hT
        clear hF hD hs g17 g18 g19 g20 g21 g22 g23 g24 g25 g26 g27 g28 g29 s17 s18 s19 s20 s21 s22 s23 s24 s25 s26 s27 s28 s29
        show wpOpsIn _ _ _ _ _ [13] _ _
        have HF8 := Lib.hid (fill_call HF.out hb)
        have HB8 := Lib.hid (belT HB.out hb)
        obtain ⟨vs, hv1, hv2, hv3⟩ := HF8.out
        have z0 : ∃ v, vs[k * 2]? = some v := ⟨_, Array.getElem?_eq_getElem (by omega)⟩
        have z1 : ∃ v, vs[k * 2 + 1]? = some v := ⟨_, Array.getElem?_eq_getElem (by omega)⟩
        obtain ⟨v0, z0⟩ := z0
        obtain ⟨v1, z1⟩ := z1
        have g0 := blk_cell hv1 _ _ z0
        have g1 := blk_cell hv1 _ _ z1
        have g2 := blk_fz hv1 (k * 2)
        have g3 := blk_fz hv1 (k * 2 + 1)
        have HS := Lib.hid (fill_set HF8.out hkn R1.out R2.out)
        clear hb hv1 hv2 hv3 z0 z1 c1' c2' c3' c4'
        simp only [wpOpsIn]
        go_simp
        go_wp2
        go_roundw
        case rel => exact ⟨k + 1, by omega, by go_num, HS.out, belS (belS HB8.out (show w.heap.size ≤ g by omega) _) (show w.heap.size ≤ g by omega) _⟩
        case measure => simp [intOf]; omega
    · obtain rfl : k = n := by omega
      have hki : ¬ (k : Int) < k := by omega
      go_wp2
      go_ret
      exact ⟨⟨g, rfl, fill_row HF.out hul.out⟩, hg ▸ HB.out⟩
end Go.Proofs.YtalhkcmlacppjaaGreatDoor

namespace Go.Proofs.YtalhkcmlacppjaaGreatDoor
open Go.ChangeShapes Go.WideShapes Go.ChangeAt Go.RowKit
set_option linter.unusedVariables false
set_option linter.unusedSimpArgs false

theorem run_app_nil {P : Program} (w : World) (t ty : TypeId) (e : TypeId) (i : TypeInfo) (ht : P.underlying t = some (.slice e)) (hi : P.info? e = some i) (v : Value) (n c : Nat) (hv : v = .slice none 0 0 ∨ ∃ g cap, v = .slice (some ⟨g, 0, none⟩) n cap ∧ n ≤ cap ∧ cap ≤ maxLen) :
    (Builtin.append_ #[t, t] ty #[v, .slice none 0 c]).run P w = .ok v w := by
  rcases hv with rfl | ⟨g, cap, rfl, h1, h2⟩
  · simp [Builtin.append_, run_underlying ht, sizeOf, typeInfo, hi, Builtin.lenOf, Builtin.firstCells, loadCells, loadCellsFrom, storeCells]
  · have : ¬ cap < n := by omega
    unfold maxLen at h2
    have h3 : ¬ (9223372036854775807 : Int) < n := by omega
    simp [Builtin.append_, run_underlying ht, sizeOf, typeInfo, hi, Builtin.lenOf, Builtin.firstCells, loadCells, loadCellsFrom, storeCells, this, h3, h1]
/-- An append of a whole list, wherever it lies. -/
theorem wpList_append_row {P : Program} {w : World} {ops : Array Oper} {rest : List Oper} {o : Oper} {a : Act} {Q : Exit → Act → World → Prop} (hgd : o.guard = none) (s x : Operand) (t : TypeId)
    (ho : o.op = .call { callee := .builtin .append, args := #[s, x], argTypes := #[t, t] })
    (base : Nat) (i : TypeInfo) (z : Value) (ht : P.underlying t = some (.slice 23)) (hi : P.info? 23 = some i) (hz : i.zero = some z)
    (hsize : i.size = 2) (hby : i.bytes = 16) (hzs : z.cells.size = 2)
    (v : Value) (n : Nat) (xs : List Value) (hs : a.eval s = v) (hown : w.ownsRow base 23 2 v n xs)
    (ao : Option Addr) (m c : Nat) (l : List (Int × Int)) (hx : a.eval x = .slice ao m c) (hl : l.length = m) (hP : PRow w ao l)
    (h63 : n + m ≤ 1000000) (hbase : base ≤ w.heap.size)
    (h : ∀ v' w', w'.ownsRow base 23 2 v' (n + m) (xs ++ flat l) → w.grownBy w' v.ownBlock → wpList P ops Q rest (a.put o.dst v') w') : wpList P ops Q (o :: rest) a w := by
  subst hl
  have hsz := flat_len l
  cases ao with
  | some ad =>
    obtain ⟨g, off, sp⟩ := ad
    rcases Nat.eq_zero_or_pos l.length with h0 | h0
    · obtain rfl : l = [] := List.eq_nil_of_length_eq_zero h0
      exact wpList_append_own w hgd s x t ho base 23 i z 2 16 ht hi hz hsize hby hzs (by decide) v n xs hs hown _ 0 c [] hx rfl (fun j u hj => by simp at hj) (fun u hu => by simp at hu) (by unfold maxLen; omega) (by omega) hbase (fun v' w' h1 h2 _ => h v' w' h1 h2)
    · obtain ⟨b', o', e, _, _⟩ := hP 0 h0
      cases e
      exact wpList_append_own w hgd s x t ho base 23 i z 2 16 ht hi hz hsize hby hzs (by decide) v n xs hs hown _ l.length c (flat l) hx hsz (prow_flat hP) (flat_one l) (by unfold maxLen; omega) (by omega) hbase (fun v' w' h1 h2 _ => h v' w' h1 h2)
  | none =>
    have h0 : l = [] := by
      rcases Nat.eq_zero_or_pos l.length with h0 | h0
      · exact List.eq_nil_of_length_eq_zero h0
      · obtain ⟨b', o', e, _, _⟩ := hP 0 h0
        cases e
    subst h0
    refine wpList_plain hgd fun K hK => ?_
    have hr := run_app_nil w t o.type 23 i ht hi v n c (by
      rcases hown.2 with ⟨h1, h2⟩ | ⟨g, cap, cur, h1, k1, k2, k3, k4, k5, k6⟩
      · exact .inl h1
      · exact .inr ⟨g, cap, h1, k3, k4⟩)
    unfold Oper.wp execOp
    simp only [ho, resolve, invoke, builtin, Sem.run_bind, Sem.run_pure, Result.andThen_ok, List.map_toArray, List.map_cons, List.map_nil, hs, hx, List.length_nil, hr]
    refine hK _ _ (h v w (by simpa [flat] using hown) ⟨rfl, rfl, rfl, Nat.le_refl _, fun k _ _ => rfl⟩)

set_option maxRecDepth 100000 in
set_option maxHeartbeats 4000000 in
theorem gather_is (bb cc n1 n2 n3 : Nat) (a1 a2 a3 : Option Addr) (c1 c2 c3 : Nat) (l1 l2 l3 us : List (Int × Int)) (w : World) (e1 : l1.length = n1) (e2 : l2.length = n2) (e3 : l3.length = n3) (hu : Hid (l1 ++ l2 ++ l3 = us)) (hl : n1 + n2 + n3 ≤ 1000) (h1 : w.cell? ⟨bb, 0, none⟩ = some (.slice a1 n1 c1)) (h2 : w.cell? ⟨bb, 1, none⟩ = some (.slice a2 n2 c2)) (h3 : w.cell? ⟨bb, 2, none⟩ = some (.slice a3 n3 c3))
    (p1 : PRow w a1 l1) (p2 : PRow w a2 l2) (p3 : PRow w a3 l3) :
    Calls Tryz.prog 57 #[.slice (some ⟨bb, 0, none⟩) 3 cc] w fun e w' => (∃ v, e = .returned v ∧ w'.ownsRow w.heap.size 23 2 v us.length (flat us)) ∧ Below w.heap.size w w' := by
  obtain ⟨i0, hi, hz0, hz1', hz2⟩ := info_parts infoP
  have HP1 := Lib.hid p1
  have HP2 := Lib.hid p2
  have HP3 := Lib.hid p3
  have hzb := World.block_lt_of_cell? w _ h1
  have E : Hid (n1 = l1.length ∧ n2 = l2.length ∧ n3 = l3.length) := Lib.hid ⟨e1.symm, e2.symm, e3.symm⟩
  clear p1 p2 p3 e1 e2 e3
  go_enter Tryz.func57, Tryz.ntmps57
  go_wp2
  go_loopw [3, 8] (fun v i wr => Below w.heap.size w wr ∧ ((i = .int .i64 0 ∧ wr.ownsRow w.heap.size 23 2 v 0 []) ∨ (i = .int .i64 1 ∧ wr.ownsRow w.heap.size 23 2 v (0 + n1) ([] ++ flat l1)) ∨ (i = .int .i64 2 ∧ wr.ownsRow w.heap.size 23 2 v (0 + n1 + n2) ([] ++ flat l1 ++ flat l2)) ∨ (i = .int .i64 3 ∧ wr.ownsRow w.heap.size 23 2 v (0 + n1 + n2 + n3) ([] ++ flat l1 ++ flat l2 ++ flat l3)))) (fun _ i _ => 3 - (intOf i).toNat)
  case atStart => exact ⟨Below.refl _ _, .inl ⟨rfl, rfl, .inl ⟨rfl, rfl⟩⟩⟩
  case round =>
    obtain ⟨hB2, ⟨rfl, hO2⟩ | ⟨rfl, hO2⟩ | ⟨rfl, hO2⟩ | ⟨rfl, hO2⟩⟩ := hrel
    all_goals have d1 := (hB2.cell (p := ⟨bb, 0, none⟩) hzb).trans h1
    all_goals have d2 := (hB2.cell (p := ⟨bb, 1, none⟩) hzb).trans h2
    all_goals have d3 := (hB2.cell (p := ⟨bb, 2, none⟩) hzb).trans h3
    · go_wp2_with (at_builtin; refine wpList_append_row rfl _ _ 29 rfl w.heap.size i0 (.agg #[.int .i64 0, .int .i64 0]) Tryz.underlying29 hi hz0 hz1' hz2 rfl _ _ _ rfl hO2 a1 n1 c1 l1 rfl E.out.1.symm (prow_below HP1.out hB2) (by omega) hB2.size ?_)
      intro v' w3 hown' hgrow
      have hB3 : Below w.heap.size w w3 := hB2.grown hgrow hB2.size (fun k hk => (hO2.lt k hk).1)
      have HO3 := Lib.hid hown'
      clear hgrow hown' hB2 hO2 d1 d2 d3
      go_wp2
      go_roundw
      case rel => exact ⟨hB3, .inr (.inl ⟨by go_num, by simpa using HO3.out⟩)⟩
      case measure => simp [intOf]
    · go_wp2_with (at_builtin; refine wpList_append_row rfl _ _ 29 rfl w.heap.size i0 (.agg #[.int .i64 0, .int .i64 0]) Tryz.underlying29 hi hz0 hz1' hz2 rfl _ _ _ rfl hO2 a2 n2 c2 l2 rfl E.out.2.1.symm (prow_below HP2.out hB2) (by omega) hB2.size ?_)
      intro v' w3 hown' hgrow
      have hB3 : Below w.heap.size w w3 := hB2.grown hgrow hB2.size (fun k hk => (hO2.lt k hk).1)
      have HO3 := Lib.hid hown'
      clear hgrow hown' hB2 hO2 d1 d2 d3
      go_wp2
      go_roundw
      case rel => exact ⟨hB3, .inr (.inr (.inl ⟨by go_num, by simpa using HO3.out⟩))⟩
      case measure => simp [intOf]
    · go_wp2_with (at_builtin; refine wpList_append_row rfl _ _ 29 rfl w.heap.size i0 (.agg #[.int .i64 0, .int .i64 0]) Tryz.underlying29 hi hz0 hz1' hz2 rfl _ _ _ rfl hO2 a3 n3 c3 l3 rfl E.out.2.2.symm (prow_below HP3.out hB2) (by omega) hB2.size ?_)
      intro v' w3 hown' hgrow
      have hB3 : Below w.heap.size w w3 := hB2.grown hgrow hB2.size (fun k hk => (hO2.lt k hk).1)
      have HO3 := Lib.hid hown'
      clear hgrow hown' hB2 hO2 d1 d2 d3
      go_wp2
      go_roundw
      case rel => exact ⟨hB3, .inr (.inr (.inr ⟨by go_num, by simpa using HO3.out⟩))⟩
      case measure => simp [intOf]
    · have HO3 := Lib.hid hO2
      clear hO2 d1 d2 d3
      go_wp2
      go_ret
      refine ⟨⟨_, rfl, ?_⟩, hB2⟩
      obtain ⟨r1, r2, r3⟩ := E.out
      subst r1 r2 r3
      rw [← hu.out, flat_app, flat_app, List.length_append, List.length_append]
      simpa using HO3.out
end Go.Proofs.YtalhkcmlacppjaaGreatDoor

namespace Go.Proofs.YtalhkcmlacppjaaGreatDoor
open Go.ChangeShapes Go.WideShapes Go.ChangeAt Go.RowKit
set_option linter.unusedVariables false
set_option linter.unusedSimpArgs false

def ptsL (o : Int × Int) (a b : List (Int × Int)) : List (Int × Int) := a ++ b ++ outL o a b
def regL (o : Int × Int) (a b : List (Int × Int)) : List (Int × Int) := if a.length = b.length ∧ a.length ≤ 12 then hullL (ptsL o a b) else []
theorem allV_app {a b : List (Int × Int)} (ha : AllV a) (hb : AllV b) : AllV (a ++ b) := (allV_iff _).2 fun q hq => by
  rcases List.mem_append.1 hq with h | h
  · exact (allV_iff a).1 ha q h
  · exact (allV_iff b).1 hb q h

set_option maxRecDepth 100000 in
set_option maxHeartbeats 4000000 in
theorem region_is (ao bo : Option Addr) (na nb ca cb : Nat) (o1 o2 : Int) (a b us : List (Int × Int)) (t : Bool) (w : World) (hna : a.length = na) (hnb : b.length = nb) (hu : Hid (regL (o1, o2) a b = us)) (ht : Hid (decide (us ≠ []) = t)) (hla : na ≤ 1000) (hlb : nb ≤ 1000) (hA : PRow w ao a) (hB : PRow w bo b) (hVA : AllV a) (hVB : AllV b) (k1 : InV o1) (k2 : InV o2) (hVO : AllV (outL (o1, o2) a b)) :
    Calls Tryz.prog 21 #[.agg #[.int .i64 o1, .int .i64 o2], .slice ao na ca, .slice bo nb cb] w fun e w' => (∃ a c, e = .returned (.tuple #[.slice a us.length c, .bool t]) ∧ PRow w' a us) ∧ Below w.heap.size w w' := by
  have bad : ¬ (na = nb ∧ na ≤ 12) → us = [] ∧ t = false := fun h => by
    have : us = [] := by
      rw [← hu.out]
      exact if_neg (by rw [hna, hnb]; exact h)
    exact ⟨this, by rw [← ht.out, this]; rfl⟩
  by_cases h1 : na = nb
  · by_cases h2 : na ≤ 12
    · clear bad
      subst h1
      have PA := Lib.hid hA
      have PB := Lib.hid hB
      have VP : Hid (AllV (ptsL (o1, o2) a b)) := Lib.hid (allV_app (allV_app hVA hVB) hVO)
      have VA := Lib.hid hVA
      have VB := Lib.hid hVB
      have K := Lib.hid (And.intro k1 k2)
      have HU : Hid (hullL (ptsL (o1, o2) a b) = us) := Lib.hid (by rw [← hu.out]; exact (if_pos ⟨by omega, by omega⟩).symm)
      obtain ⟨ms, hms⟩ : ∃ ms, outL (o1, o2) a b = ms := ⟨_, rfl⟩
      have HM := Lib.hid hms
      have HML : Hid (ms.length = na) := Lib.hid (by rw [← hms, outL_len _ _ _ (by omega), hna])
      obtain ⟨l, hl⟩ : ∃ l, ptsL (o1, o2) a b = l := ⟨_, rfl⟩
      have HL : Hid (a ++ b ++ ms = l) := Lib.hid (by rw [← hl, ← hms]; rfl)
      have HLL : Hid (l.length = na + na + na) := Lib.hid (by rw [← HL.out, List.length_append, List.length_append, HML.out, hna, hnb])
      rw [hl] at HU VP
      have NA := Lib.hid hna
      have NB := Lib.hid hnb
      clear hA hB hVA hVB k1 k2 hVO hms hl hu hna hnb
      have h2' : ¬ (12 : Int) < (na : Int) := by omega
      go_enter Tryz.func21, Tryz.ntmps21
      go_upto_region 3 with fail
      have x0 := blk_new w (.cells #[.int .i64 o1, .int .i64 o2] 23) _ rfl
      have x1 := blk_cell x0 0 _ rfl
      have x2 := blk_cell x0 1 _ rfl
      have B1 := Lib.hid (belA (Below.refl _ w) (.cells #[.int .i64 o1, .int .i64 o2] 23))
      have PA1 := Lib.hid (prow_below PA.out B1.out)
      have PB1 := Lib.hid (prow_below PB.out B1.out)
      clear x0
      generalize w.alloc (.cells #[.int .i64 o1, .int .i64 o2] 23) = w1 at *
      go_wp2_with fail
      refine (combine_is ao bo na ca cb o1 o2 a b ms w1 NA.out NB.out HM (by omega) PA1.out PB1.out VA.out VB.out K.out.1 K.out.2).mono ?_
      rintro e w2 ⟨⟨g, rfl, hp⟩, hb⟩
      have B2 := Lib.hid (belT B1.out hb)
      have PA2 := Lib.hid (prow_below PA1.out hb)
      have PB2 := Lib.hid (prow_below PB1.out hb)
      have PM2 := Lib.hid hp
      clear hb hp x1 x2
      obtain ⟨ob, hob⟩ : ∃ ob, Obj.cells #[.slice ao na ca, .slice bo na cb, .slice (some ⟨g, 0, none⟩) na na] 29 = ob := ⟨_, rfl⟩
      have y0 := blk_new w2 ob _ rfl
      have PA3 := Lib.hid (prow_alloc PA2.out ob)
      have PB3 := Lib.hid (prow_alloc PB2.out ob)
      have PM3 := Lib.hid (prow_alloc PM2.out ob)
      have B3 := Lib.hid (belA B2.out ob)
      subst hob
      have y1 := blk_cell y0 0 _ rfl
      have y2 := blk_cell y0 1 _ rfl
      have y3 := blk_cell y0 2 _ rfl
      have Y := Lib.hid (And.intro y1 (And.intro y2 y3))
      clear y0 y1 y2 y3
      go_wp2_with fail
      refine (gather_is w2.heap.size 3 na na na ao bo (some ⟨g, 0, none⟩) ca cb na a b ms l _ NA.out NB.out HML.out HL (by omega) Y.out.1 Y.out.2.1 Y.out.2.2 PA3.out PB3.out PM3.out).mono ?_
      rintro e w3 ⟨⟨v, rfl, hO⟩, hb⟩
      have B4 := Lib.hid (belT B3.out hb)
      obtain ⟨lo, lc, rfl, hp⟩ := own_row hO
      have PL := Lib.hid hp
      clear hO hb hp
      go_wp2_with fail
      refine (of_is lo l.length lc l us t w3 rfl HU ht (by rw [HLL.out]; omega) PL.out VP.out).mono ?_
      rintro e w4 ⟨⟨ro, rc, rfl, hp⟩, hb⟩
      have B5 := Lib.hid (belT B4.out hb)
      have PR := Lib.hid hp
      clear hb hp
      go_wp2
      refine bodyPost_ret (v := .tuple #[.slice ro us.length rc, .bool t]) (by simp [results, Tryz.results21, go_sem]) rfl ?_
      exact ⟨⟨ro, rc, rfl, PR.out⟩, B5.out⟩
    · obtain ⟨rfl, rfl⟩ := bad (fun h => h2 h.2)
      have h2' : (12 : Int) < (na : Int) := by omega
      subst h1
      go_enter Tryz.func21, Tryz.ntmps21
      go_wp2
      refine bodyPost_ret (v := .tuple #[.slice none 0 0, .bool false]) (by simp [results, Tryz.results21, go_sem]) rfl ?_
      exact ⟨⟨none, ⟨0, rfl⟩, fun i hi => absurd hi (by simp)⟩, belA (Below.refl _ w) _⟩
  · obtain ⟨rfl, rfl⟩ := bad (fun h => h1 h.1)
    have h1' : ((na : Int) == (nb : Int)) = false := by simp; omega
    have h1'' : ((na : Int) != (nb : Int)) = true := by simp; omega
    go_enter Tryz.func21, Tryz.ntmps21
    go_wp2
    refine bodyPost_ret (v := .tuple #[.slice none 0 0, .bool false]) (by simp [results, Tryz.results21, go_sem]) rfl ?_
    exact ⟨⟨none, ⟨0, rfl⟩, fun i hi => absurd hi (by simp)⟩, belA (Below.refl _ w) _⟩
end Go.Proofs.YtalhkcmlacppjaaGreatDoor

