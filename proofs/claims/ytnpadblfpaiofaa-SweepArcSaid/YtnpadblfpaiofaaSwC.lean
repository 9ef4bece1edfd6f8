/- Contract of sweep.combine at the method value of a center. The coordinates are bounded. -/
import Derived.Test.YtnpadblfpaiofaaSwB
import Derived.Test.YtnpadblfpaiofaaHlV
import Derived.Laws.MakeOwn
namespace Go.Proofs.Ytnpadblfpaiofaa
open Go.ChangeShapes Go.WideShapes Go.ChangeAt Go.RowKit
set_option linter.unusedVariables false
set_option linter.unusedSimpArgs false

def outL (o : Int × Int) (a b : List (Int × Int)) : List (Int × Int) := List.zipWith (outP o) a b
theorem outL_len (o : Int × Int) (a b : List (Int × Int)) (h : a.length = b.length) : (outL o a b).length = a.length := by unfold outL; rw [List.length_zipWith, h, Nat.min_self]
theorem outL_at (o : Int × Int) (a b : List (Int × Int)) (h : a.length = b.length) {k : Nat} (hk : k < a.length) : gp (outL o a b) k = outP o (gp a k) (gp b k) := by
  rw [gp_lt (by rw [outL_len o a b h]; exact hk), gp_lt hk, gp_lt (by omega)]
  unfold outL
  rw [List.getElem_zipWith]

/-- A block of the call's own whose first k points are those of us. -/
def Fill (w : World) (g n k : Nat) (us : List (Int × Int)) : Prop := ∃ vs : Array Value, w.heap[g]? = some (.cells vs 35 (0, 0)) ∧ vs.size = n * 2 ∧ ∀ i, i < k → vs[i * 2]? = some (.int .i64 (cx us i)) ∧ vs[i * 2 + 1]? = some (.int .i64 (cy us i))
theorem fill_row {w : World} {g n : Nat} {us : List (Int × Int)} (h : Fill w g n n us) (hn : us.length = n) : PRow w (some ⟨g, 0, none⟩) us := fun i hi => by
  obtain ⟨vs, h1, h2, h3⟩ := h
  obtain ⟨a, b⟩ := h3 i (by omega)
  exact ⟨g, 0, rfl, by rw [Nat.zero_add]; exact blk_cell h1 _ _ a, by rw [Nat.zero_add]; exact blk_cell h1 _ _ b⟩
theorem fill_set {w : World} {g n k : Nat} {us : List (Int × Int)} {x y : Int} (h : Fill w g n k us) (hk : k < n) (hx : cx us k = x) (hy : cy us k = y) : Fill ((w.setCell ⟨g, k * 2, none⟩ (.int .i64 x)).setCell ⟨g, k * 2 + 1, none⟩ (.int .i64 y)) g n (k + 1) us := by
  obtain ⟨vs, h1, h2, h3⟩ := h
  refine ⟨_, blk_set (blk_set h1 _) _, by simp [h2], fun i hi => ?_⟩
  by_cases e : i = k
  · subst e
    constructor
    · rw [Array.getElem?_setIfInBounds_ne (by omega), Array.getElem?_setIfInBounds_self_of_lt (by omega), hx]
    · rw [Array.getElem?_setIfInBounds_self_of_lt (by simp; omega), hy]
  · obtain ⟨a, b⟩ := h3 i (by omega)
    constructor
    · rw [Array.getElem?_setIfInBounds_ne (by omega), Array.getElem?_setIfInBounds_ne (by omega), a]
    · rw [Array.getElem?_setIfInBounds_ne (by omega), Array.getElem?_setIfInBounds_ne (by omega), b]
theorem fill_call {w w' : World} {g n k : Nat} {us : List (Int × Int)} (h : Fill w g n k us) (hb : Below w.heap.size w w') : Fill w' g n k us := by
  obtain ⟨vs, h1, h2, h3⟩ := h
  exact ⟨vs, blk_call h1 hb, h2, h3⟩

set_option maxRecDepth 100000 in
set_option maxHeartbeats 8000000 in
theorem combine_is (ao bo : Option Addr) (n ca cb : Nat) (c1 c2 : Int) (a b us : List (Int × Int)) (w : World) (hn : a.length = n) (hm : b.length = n) (hu : Hid (outL (c1, c2) a b = us)) (hle : n ≤ 1000) (hA : PRow w ao a) (hB : PRow w bo b) (hVA : AllV a) (hVB : AllV b) (k1 : InV c1) (k2 : InV c2) :
    Calls Try.prog 55 #[.slice ao n ca, .slice bo n cb, .func (.func 53) #[.agg #[.int .i64 c1, .int .i64 c2]] #[]] w fun e w' => (∃ g, e = .returned (.slice (some ⟨g, 0, none⟩) n n) ∧ PRow w' (some ⟨g, 0, none⟩) us) ∧ Below w.heap.size w w' := by
  obtain ⟨i0, hi, hz0, hz1', hz2⟩ := info_parts infoP
  have mk := run_make (P := Try.prog) w 22 35 i0 _ Try.underlying22 hi hz0 .i64 .i64 (n : Int) (n : Int) (by omega) (by omega) (by rw [hz2]; omega) (by omega)
  rw [hz1', Int.toNat_natCast] at mk
  have hml : (n : Int).toNat = n := Int.toNat_natCast n
  have PA := Lib.hid hA
  have PB := Lib.hid hB
  have VA := Lib.hid hVA
  have VB := Lib.hid hVB
  have K := Lib.hid (And.intro k1 k2)
  have N1 := Lib.hid hn
  have N2 := Lib.hid hm
  have hul : Hid (us.length = n) := Lib.hid (by rw [← hu.out, outL_len _ _ _ (by omega), hn])
  clear hA hB hVA hVB k1 k2 hn hm
  go_enter Try.func55, Try.ntmps55
  go_wp2
  obtain ⟨ob, hob⟩ : ∃ ob, Obj.cells (Go.madeCells #[.int .i64 0, .int .i64 0] (n * 2)) 35 = ob := ⟨_, rfl⟩
  have hF0 : Fill (w.alloc ob) w.heap.size n 0 us := by rw [← hob]; exact ⟨_, blk_new _ _ _ rfl, size_madeCells _ _, fun i hi => by omega⟩
  rw [hob]
  have hB1 := belA (Below.refl _ w) ob
  clear hob mk
  generalize w.alloc ob = w1 at *
  obtain ⟨g, hg⟩ : ∃ g, w.heap.size = g := ⟨_, rfl⟩
  rw [hg] at hF0 ⊢
  go_loopw [14] (fun s wr => ∃ k : Nat, k ≤ n ∧ s = .int .i64 k ∧ Fill wr g n k us ∧ Below w.heap.size w wr) (fun s _ => n - (intOf s).toNat)
  case atStart => exact ⟨0, Nat.zero_le _, rfl, hF0, hB1⟩
  case round =>
    obtain ⟨k, hk, rfl, hF, hB⟩ := hrel
    have HF := Lib.hid hF
    have HB := Lib.hid hB
    clear hF hB hF0 hB1
    by_cases hkn : k < n
    · have hki : (k : Int) < n := by omega
      obtain ⟨p, q, rfl, c1', c2'⟩ := prow_at (prow_below PA.out HB.out) (i := k) (by rw [N1.out]; exact hkn)
      obtain ⟨p', q', rfl, c3', c4'⟩ := prow_at (prow_below PB.out HB.out) (i := k) (by rw [N2.out]; exact hkn)
      have va := VA.out k (by rw [N1.out]; exact hkn)
      have vb := VB.out k (by rw [N2.out]; exact hkn)
      have e := outL_at (c1, c2) a b (by rw [N1.out, N2.out]) (k := k) (by rw [N1.out]; exact hkn)
      rw [hu.out] at e
      obtain ⟨r, hr⟩ : ∃ r, outP (c1, c2) (cx a k, cy a k) (cx b k, cy b k) = r := ⟨_, rfl⟩
      have e' : gp us k = r := e.trans hr
      have R1 : Hid (cx us k = r.1) := Lib.hid (congrArg Prod.fst e')
      have R2 : Hid (cy us k = r.2) := Lib.hid (congrArg Prod.snd e')
      have C := Lib.hid (fun W => beyond_is c1 c2 (cx a k) (cy a k) (cx b k) (cy b k) r W K.out.1 K.out.2 va.1 va.2 vb.1 vb.2 (Lib.hid hr))
      clear e e' hr va vb
      generalize cx a k = x1 at *
      generalize cy a k = x2 at *
      generalize cx b k = y1 at *
      generalize cy b k = y2 at *
      go_upto_region 5 with fail
      obtain ⟨sp, hsp⟩ : ∃ sp : ToldS, sp = [none, none, none, none, none, none, none, none, none, none, none, none, none, none, none, none, none, some (eqS (.slice (some ⟨g, 0, none⟩) n n)), some (eqS (.int .i64 (k : Int))), some (eqS (.func (.func 53) #[.agg #[.int .i64 c1, .int .i64 c2]] #[])), some (eqS (.slice (some ⟨p, q, none⟩) n ca)), some (eqS (.int .i64 (k : Int))), some (eqS (.pointer (some ⟨p, q + k * 2, none⟩))), some (eqS (.agg #[.int .i64 x1, .int .i64 x2])), some (eqS (.slice (some ⟨p', q', none⟩) n cb)), some (eqS (.int .i64 (k : Int))), some (eqS (.pointer (some ⟨p', q' + k * 2, none⟩))), some (eqS (.agg #[.int .i64 y1, .int .i64 y2])), some (eqS (.agg #[.int .i64 r.1, .int .i64 r.2])), some (eqS (.pointer (some ⟨g, k * 2, none⟩)))] := ⟨_, rfl⟩
      have s17 : sp.getD 17 none = some (eqS (.slice (some ⟨g, 0, none⟩) n n)) := by rw [hsp]; rfl
      have s18 : sp.getD 18 none = some (eqS (.int .i64 (k : Int))) := by rw [hsp]; rfl
      have s19 : sp.getD 19 none = some (eqS (.func (.func 53) #[.agg #[.int .i64 c1, .int .i64 c2]] #[])) := by rw [hsp]; rfl
      have s20 : sp.getD 20 none = some (eqS (.slice (some ⟨p, q, none⟩) n ca)) := by rw [hsp]; rfl
      have s21 : sp.getD 21 none = some (eqS (.int .i64 (k : Int))) := by rw [hsp]; rfl
      have s22 : sp.getD 22 none = some (eqS (.pointer (some ⟨p, q + k * 2, none⟩))) := by rw [hsp]; rfl
      have s23 : sp.getD 23 none = some (eqS (.agg #[.int .i64 x1, .int .i64 x2])) := by rw [hsp]; rfl
      have s24 : sp.getD 24 none = some (eqS (.slice (some ⟨p', q', none⟩) n cb)) := by rw [hsp]; rfl
      have s25 : sp.getD 25 none = some (eqS (.int .i64 (k : Int))) := by rw [hsp]; rfl
      have s26 : sp.getD 26 none = some (eqS (.pointer (some ⟨p', q' + k * 2, none⟩))) := by rw [hsp]; rfl
      have s27 : sp.getD 27 none = some (eqS (.agg #[.int .i64 y1, .int .i64 y2])) := by rw [hsp]; rfl
      have s28 : sp.getD 28 none = some (eqS (.agg #[.int .i64 r.1, .int .i64 r.2])) := by rw [hsp]; rfl
      have s29 : sp.getD 29 none = some (eqS (.pointer (some ⟨g, k * 2, none⟩))) := by rw [hsp]; rfl
      clear hsp
      refine (wpIn_wide (n := 0)).1 (region_headR (RtS sp) (rtS_keep sp) 13 rfl rfl rfl (by kernel_rfl) (by decide) (by kernel_rfl) (by kernel_rfl) (by kernel_rfl) ?_ ?_)
      · intro Q'; show ObsR _ _ _ _ _ _ _ _ (List.take _ _); simp only [List.take_succ_cons, List.take_zero]
        refine obsR_cons ?_ ?_
        · intro T wx K hB hF hD hK
          have g7 : T[7]? = some (.slice (some ⟨g, 0, none⟩) n n) := hF 7 (freeM_of (by kernel_rfl))
          refine ob_yes (wanted_none rfl) ?_
          clear hF hD
          go_simp
          exact hK _ _ (Below.refl _ _) (rt_eqS s17)
        refine obsR_cons ?_ ?_
        · intro T wx K hB hF hD hK
          have g8 : T[8]? = some (.int .i64 (k : Int)) := hF 8 (freeM_of (by kernel_rfl))
          refine ob_yes (wanted_none rfl) ?_
          clear hF hD
          go_simp
          exact hK _ _ (Below.refl _ _) (rt_eqS s18)
        refine obsR_cons ?_ ?_
        · intro T wx K hB hF hD hK
          have g2 : T[2]? = some (.func (.func 53) #[.agg #[.int .i64 c1, .int .i64 c2]] #[]) := hF 2 (freeM_of (by kernel_rfl))
          refine ob_yes (wanted_none rfl) ?_
          clear hF hD
          go_simp
          exact hK _ _ (Below.refl _ _) (rt_eqS s19)
        refine obsR_cons ?_ ?_
        · intro T wx K hB hF hD hK
          have g0 : T[0]? = some (.slice (some ⟨p, q, none⟩) n ca) := hF 0 (freeM_of (by kernel_rfl))
          refine ob_yes (wanted_none rfl) ?_
          clear hF hD
          go_simp
          exact hK _ _ (Below.refl _ _) (rt_eqS s20)
        refine obsR_cons ?_ ?_
        · intro T wx K hB hF hD hK
          have g8 : T[8]? = some (.int .i64 (k : Int)) := hF 8 (freeM_of (by kernel_rfl))
          refine ob_yes (wanted_none rfl) ?_
          clear hF hD
          go_simp
          exact hK _ _ (Below.refl _ _) (rt_eqS s21)
        refine obsR_cons ?_ ?_
        · intro T wx K hB hF hD hK
          have g20 := get_eqS (hD 3 20 (by simp [Region.binds]) (by kernel_rfl)) s20
          have g21 := get_eqS (hD 4 21 (by simp [Region.binds]) (by kernel_rfl)) s21
          refine ob_yes (wanted_none rfl) ?_
          clear hF hD
          go_simp
          exact hK _ _ (Below.refl _ _) (rt_eqS s22)
        refine obsR_cons ?_ ?_
        · intro T wx K hB hF hD hK
          have g22 := get_eqS (hD 5 22 (by simp [Region.binds]) (by kernel_rfl)) s22
          refine ob_yes (wanted_none rfl) ?_
          clear hF hD
          have d1 := cell_call c1' hB
          have d2 := cell_call c2' hB
          go_simp
          exact hK _ _ (Below.refl _ _) (rt_eqS s23)
        refine obsR_cons ?_ ?_
        · intro T wx K hB hF hD hK
          have g1 : T[1]? = some (.slice (some ⟨p', q', none⟩) n cb) := hF 1 (freeM_of (by kernel_rfl))
          refine ob_yes (wanted_none rfl) ?_
          clear hF hD
          go_simp
          exact hK _ _ (Below.refl _ _) (rt_eqS s24)
        refine obsR_cons ?_ ?_
        · intro T wx K hB hF hD hK
          have g8 : T[8]? = some (.int .i64 (k : Int)) := hF 8 (freeM_of (by kernel_rfl))
          refine ob_yes (wanted_none rfl) ?_
          clear hF hD
          go_simp
          exact hK _ _ (Below.refl _ _) (rt_eqS s25)
        refine obsR_cons ?_ ?_
        · intro T wx K hB hF hD hK
          have g24 := get_eqS (hD 7 24 (by simp [Region.binds]) (by kernel_rfl)) s24
          have g25 := get_eqS (hD 8 25 (by simp [Region.binds]) (by kernel_rfl)) s25
          refine ob_yes (wanted_none rfl) ?_
          clear hF hD
          go_simp
          exact hK _ _ (Below.refl _ _) (rt_eqS s26)
        refine obsR_cons ?_ ?_
        · intro T wx K hB hF hD hK
          have g26 := get_eqS (hD 9 26 (by simp [Region.binds]) (by kernel_rfl)) s26
          refine ob_yes (wanted_none rfl) ?_
          clear hF hD
          have d3 := cell_call c3' hB
          have d4 := cell_call c4' hB
          go_simp
          exact hK _ _ (Below.refl _ _) (rt_eqS s27)
        refine obsR_cons ?_ ?_
        · intro T wx K hB hF hD hK
          have g19 := get_eqS (hD 2 19 (by simp [Region.binds]) (by kernel_rfl)) s19
          have g23 := get_eqS (hD 6 23 (by simp [Region.binds]) (by kernel_rfl)) s23
          have g27 := get_eqS (hD 10 27 (by simp [Region.binds]) (by kernel_rfl)) s27
          refine ob_yes (wanted_none rfl) ?_
          clear hF hD
          go_simp
          refine (C.out _).mono ?_; rintro e w9 ⟨rfl, hb⟩
          exact hK _ _ hb (rt_eqS s28)
        refine obsR_cons ?_ ?_
        · intro T wx K hB hF hD hK
          have g17 := get_eqS (hD 0 17 (by simp [Region.binds]) (by kernel_rfl)) s17
          have g18 := get_eqS (hD 1 18 (by simp [Region.binds]) (by kernel_rfl)) s18
          refine ob_yes (wanted_none rfl) ?_
          clear hF hD
          go_simp
          exact hK _ _ (Below.refl _ _) (rt_eqS s29)
        exact obsR_nil
      · intro T w8 hb hF hs hD
        have g17 := get_eqS (hD 0 17 (by decide) (by kernel_rfl)) s17
        have g18 := get_eqS (hD 1 18 (by decide) (by kernel_rfl)) s18
        have g19 := get_eqS (hD 2 19 (by decide) (by kernel_rfl)) s19
        have g20 := get_eqS (hD 3 20 (by decide) (by kernel_rfl)) s20
        have g21 := get_eqS (hD 4 21 (by decide) (by kernel_rfl)) s21
        have g22 := get_eqS (hD 5 22 (by decide) (by kernel_rfl)) s22
        have g23 := get_eqS (hD 6 23 (by decide) (by kernel_rfl)) s23
        have g24 := get_eqS (hD 7 24 (by decide) (by kernel_rfl)) s24
        have g25 := get_eqS (hD 8 25 (by decide) (by kernel_rfl)) s25
        have g26 := get_eqS (hD 9 26 (by decide) (by kernel_rfl)) s26
        have g27 := get_eqS (hD 10 27 (by decide) (by kernel_rfl)) s27
        have g28 := get_eqS (hD 11 28 (by decide) (by kernel_rfl)) s28
        have g29 := get_eqS (hD 12 29 (by decide) (by kernel_rfl)) s29
        have hT := conc [(17, .slice (some ⟨g, 0, none⟩) n n), (18, .int .i64 (k : Int)), (19, .func (.func 53) #[.agg #[.int .i64 c1, .int .i64 c2]] #[]), (20, .slice (some ⟨p, q, none⟩) n ca), (21, .int .i64 (k : Int)), (22, .pointer (some ⟨p, q + k * 2, none⟩)), (23, .agg #[.int .i64 x1, .int .i64 x2]), (24, .slice (some ⟨p', q', none⟩) n cb), (25, .int .i64 (k : Int)), (26, .pointer (some ⟨p', q' + k * 2, none⟩)), (27, .agg #[.int .i64 y1, .int .i64 y2]), (28, .agg #[.int .i64 r.1, .int .i64 r.2]), (29, .pointer (some ⟨g, k * 2, none⟩))] hs hF (by simp only [List.forall_mem_cons]; exact ⟨g17, g18, g19, g20, g21, g22, g23, g24, g25, g26, g27, g28, g29, fun p hp => absurd hp List.not_mem_nil⟩) (by kernel_rfl)
        simp only [List.foldl, List.setIfInBounds_toArray, List.set_cons_succ, List.set_cons_zero] at hT
        subst hT
        clear hF hD hs g17 g18 g19 g20 g21 g22 g23 g24 g25 g26 g27 g28 g29 s17 s18 s19 s20 s21 s22 s23 s24 s25 s26 s27 s28 s29
        show wpOpsIn _ _ _ _ _ [13] _ _
        have HF8 := Lib.hid (fill_call HF.out hb)
        have HB8 := Lib.hid (belT HB.out hb)
        obtain ⟨vs, hv1, hv2, hv3⟩ := HF8.out
        have z0 : ∃ v, vs[k * 2]? = some v := ⟨_, Array.getElem?_eq_getElem (by omega)⟩
        have z1 : ∃ v, vs[k * 2 + 1]? = some v := ⟨_, Array.getElem?_eq_getElem (by omega)⟩
        obtain ⟨v0, z0⟩ := z0
        obtain ⟨v1, z1⟩ := z1
        have g0 := blk_cell hv1 _ _ z0
        have g1 := blk_cell hv1 _ _ z1
        have g2 := blk_fz hv1 (k * 2)
        have g3 := blk_fz hv1 (k * 2 + 1)
        have HS := Lib.hid (fill_set HF8.out hkn R1.out R2.out)
        clear hb hv1 hv2 hv3 z0 z1 c1' c2' c3' c4'
        simp only [wpOpsIn]
        go_simp
        go_wp2
        go_roundw
        case rel => exact ⟨k + 1, by omega, by go_num, HS.out, belS (belS HB8.out (show w.heap.size ≤ g by omega) _) (show w.heap.size ≤ g by omega) _⟩
        case measure => simp [intOf]; omega
    · obtain rfl : k = n := by omega
      have hki : ¬ (k : Int) < k := by omega
      go_wp2
      go_ret
      exact ⟨⟨g, rfl, fill_row HF.out hul.out⟩, hg ▸ HB.out⟩
end Go.Proofs.Ytnpadblfpaiofaa
