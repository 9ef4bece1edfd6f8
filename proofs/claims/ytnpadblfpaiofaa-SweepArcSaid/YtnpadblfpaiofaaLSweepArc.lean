/- Proved: every rational point of the arc that a corner traverses between two neighboring turns lies in the swept polygon (the law SweepArc returns true).
Conditions: none on the arguments. -/
import Derived.Test.YtnpadblfpaiofaaSwP
import Derived.Test.YtnpadblfpaiofaaSwL
namespace Go.Proofs.Ytnpadblfpaiofaa.sweepArc
open Go.ChangeShapes Go.WideShapes Go.ChangeAt Go.RowKit
set_option linter.unusedVariables false
set_option linter.unusedSimpArgs false

def ptrS (base : Nat) : StP := ⟨fun v w => ∃ g, v = .pointer (some ⟨g, 0, none⟩) ∧ base ≤ g ∧ w.heap[g]? = some (.cells #[.int .i64 0, .int .i64 0] 35 (0, 0)), fun _ _ _ ⟨g, h1, h2, h3⟩ hb => ⟨g, h1, h2, blk_call h3 hb⟩⟩
theorem str_bd5 {c a b : Int} (hc : -16000 ≤ c ∧ c ≤ 16000) (ha : -100000 ≤ a ∧ a ≤ 100000) (hb : -100000 ≤ b ∧ b ≤ 100000) : -200000 ≤ strI c a b ∧ strI c a b ≤ 200000 := by
  unfold strI
  obtain ⟨x, hx⟩ : ∃ x, 9 * (a + b - 2 * c) = x := ⟨_, rfl⟩
  rw [hx]
  by_cases h : 0 ≤ x
  · rw [Int.tdiv_eq_ediv_of_nonneg h]; omega
  · have e : x.tdiv 16 = -((-x).tdiv 16) := by rw [Int.neg_tdiv, Int.neg_neg]
    rw [e, Int.tdiv_eq_ediv_of_nonneg (by omega)]; omega
def B5 (l : List (Int × Int)) : Prop := ∀ q ∈ l, (-100000 ≤ q.1 ∧ q.1 ≤ 100000) ∧ -100000 ≤ q.2 ∧ q.2 ≤ 100000
theorem b5_8 {l : List (Int × Int)} (h : B5 l) : Small8 l := fun q hq => by have := h q hq; unfold In8; omega
theorem turn_B5 {o x : Int × Int} (l : List (Int × Int)) (ho : (-16000 ≤ o.1 ∧ o.1 ≤ 16000) ∧ -16000 ≤ o.2 ∧ o.2 ≤ 16000) (hx : (-65 ≤ x.1 ∧ x.1 ≤ 65) ∧ -65 ≤ x.2 ∧ x.2 ≤ 65) : B5 (turnL o x l) := fun q hq => by
  unfold turnL at hq
  obtain ⟨p, _, rfl⟩ := List.mem_map.1 hq
  exact turn_bd ho hx ⟨tmod_bd (x := p.1) (m := 41) (by decide), tmod_bd (x := p.2) (m := 41) (by decide)⟩
theorem pts_bd5 {o : Int × Int} {a b : List (Int × Int)} (ho : (-16000 ≤ o.1 ∧ o.1 ≤ 16000) ∧ -16000 ≤ o.2 ∧ o.2 ≤ 16000) (ha : B5 a) (hb : B5 b) : ∀ q ∈ ptsL o a b, (-200000 ≤ q.1 ∧ q.1 ≤ 200000) ∧ -200000 ≤ q.2 ∧ q.2 ≤ 200000 := fun q hq => by
  unfold ptsL at hq
  rcases List.mem_append.1 hq with h | h
  · rcases List.mem_append.1 h with h | h
    · have := ha q h; omega
    · have := hb q h; omega
  · unfold outL at h
    obtain ⟨i, hi, e⟩ := List.mem_iff_getElem.1 h
    rw [List.length_zipWith] at hi
    rw [List.getElem_zipWith] at e
    have p1 := ha _ (List.getElem_mem (show i < a.length by omega))
    have p2 := hb _ (List.getElem_mem (show i < b.length by omega))
    rw [← e]
    exact ⟨str_bd5 ho.1 p1.1 p2.1, str_bd5 ho.2 p1.2 p2.2⟩
theorem own_ne {w : World} {base : Nat} {e : TypeId} {s : Nat} {v : Value} {n : Nat} {xs : List Value} (h : w.ownsRow base e s v n xs) {g : Nat} (hg : w.heap.size ≤ g) : some g ≠ v.ownBlock := fun k => by
  have := (h.lt g k.symm).2
  omega

set_option maxRecDepth 100000 in
set_option maxHeartbeats 32000000 in
theorem walk {w : World} (X Y : Int) (ao : Option Addr) (ca : Nat) (l : List (Int × Int)) (nl : l.length ≤ 9223372036854775807) (hA : PRow w ao l) (zt : Int) (wt : (Lit.int .u8 zt).wf = true) (zn : Int) (wn : (Lit.int .u8 zn).wf = true) (zm : Int) (wm : (Lit.int .u8 zm).wf = true) (W' : World) (hw : w = W') :
    Calls Try.prog 6 #[.agg #[.int .i64 X, .int .i64 Y], .slice ao l.length ca, .int .u8 zt, .int .u8 zn, .int .u8 zm] w fun e w' => e = .returned (.bool true) ∧ Below w.heap.size w w' := by
  obtain ⟨i0, hi0, hz0, hz1', hz2⟩ := info_parts infoP
  have PA := Lib.hid hA
  obtain ⟨zt1, zt2⟩ := bounds_u8 wt
  obtain ⟨zn1, zn2⟩ := bounds_u8 wn
  obtain ⟨zm1, zm2⟩ := bounds_u8 wm
  clear hA hw wt wn wm
  obtain ⟨q, hq⟩ : ∃ q : Nat, zt.tmod 9 = (q : Int) := ⟨(zt.tmod 9).toNat, by rw [Int.tmod_eq_emod_of_nonneg zt1]; have := Int.emod_nonneg zt (show (9 : Int) ≠ 0 by decide); omega⟩
  have hq9 : q < 9 := by rw [Int.tmod_eq_emod_of_nonneg zt1] at hq; omega
  obtain ⟨m9, hm9⟩ : ∃ z, zm.tmod 99 = z := ⟨_, rfl⟩
  have hm9b : 0 ≤ m9 ∧ m9 ≤ 98 := by rw [Int.tmod_eq_emod_of_nonneg zm1] at hm9; omega
  obtain ⟨h, hh⟩ : ∃ z, 1 + m9 = z := ⟨_, rfl⟩
  have hhb : 1 ≤ h ∧ h ≤ 99 := by omega
  obtain ⟨kk, hkk⟩ : ∃ z, zn.tmod (h + 1) = z := ⟨_, rfl⟩
  have hkb : 0 ≤ kk ∧ kk ≤ h := by
    rw [Int.tmod_eq_emod_of_nonneg zn1] at hkk
    have := Int.emod_nonneg zn (show h + 1 ≠ 0 by omega)
    have := Int.emod_lt_of_pos zn (show 0 < h + 1 by omega)
    omega
  obtain ⟨r1, hr1⟩ : ∃ z, X.tmod 1000 = z := ⟨_, rfl⟩
  obtain ⟨r2, hr2⟩ : ∃ z, Y.tmod 1000 = z := ⟨_, rfl⟩
  have br1 : -(1000 - 1) ≤ r1 ∧ r1 ≤ 1000 - 1 := by rw [← hr1]; exact tmod_bd (by decide)
  have br2 : -(1000 - 1) ≤ r2 ∧ r2 ≤ 1000 - 1 := by rw [← hr2]; exact tmod_bd (by decide)
  obtain ⟨o1, ho1⟩ : ∃ z, r1 * 16 = z := ⟨_, rfl⟩
  obtain ⟨o2, ho2⟩ : ∃ z, r2 * 16 = z := ⟨_, rfl⟩
  have bo : Hid ((-16000 ≤ o1 ∧ o1 ≤ 16000) ∧ -16000 ≤ o2 ∧ o2 ≤ 16000) := Lib.hid (by omega)
  have c1 : IntKind.i64.wrap zt = zt := wrap_k _ (by omega)
  have c2 : IntKind.i64.wrap (q : Int) = (q : Int) := wrap_k _ (by omega)
  have c3 : IntKind.i64.wrap ((q : Int) + 1) = (q : Int) + 1 := wrap_k _ (by omega)
  have c4 : IntKind.i64.wrap zm = zm := wrap_k _ (by omega)
  have c5 : IntKind.i64.wrap m9 = m9 := wrap_k _ (by omega)
  have c6 : IntKind.i64.wrap h = h := wrap_k _ (by omega)
  have c7 : IntKind.i64.wrap zn = zn := wrap_k _ (by omega)
  have c8 : IntKind.i64.wrap (h + 1) = h + 1 := wrap_k _ (by omega)
  have c9 : IntKind.i64.wrap kk = kk := wrap_k _ (by omega)
  have c10 : ¬ h + 1 = 0 := by omega
  have c11 : IntKind.i64.wrap r1 = r1 := wrap_k _ (by omega)
  have c12 : IntKind.i64.wrap r2 = r2 := wrap_k _ (by omega)
  have c13 : IntKind.i64.wrap o1 = o1 := wrap_k _ (by omega)
  have c14 : IntKind.i64.wrap o2 = o2 := wrap_k _ (by omega)
  have HB := Lib.hid (And.intro hhb hkb)
  obtain ⟨⟨x0, x1⟩, hx⟩ : ∃ z, tabQ.getD q (0, 0) = z := ⟨_, rfl⟩
  obtain ⟨⟨y0, y1⟩, hy⟩ : ∃ z, tabQ.getD (q + 1) (0, 0) = z := ⟨_, rfl⟩
  have IX := fun W => index_tab q x0 x1 (by omega) hx W
  have IY := fun W => index_tab (q + 1) y0 y1 (by omega) hy W
  rw [show ((q + 1 : Nat) : Int) = (q : Int) + 1 by omega] at IY
  have HX := Lib.hid hx
  have HY := Lib.hid hy
  have BX := Lib.hid (tab_bd q (by omega) hx)
  have BY := Lib.hid (tab_bd (q + 1) (by omega) hy)
  have TF := Lib.hid (tab_facts q hq9 hx hy)
  obtain ⟨U, hU⟩ : ∃ U, turnL (o1, o2) (x0, x1) l = U := ⟨_, rfl⟩
  obtain ⟨V, hV⟩ : ∃ V, turnL (o1, o2) (y0, y1) l = V := ⟨_, rfl⟩
  have HU := Lib.hid hU
  have HV := Lib.hid hV
  have LU : Hid (U.length = min 12 l.length) := Lib.hid (by rw [← hU]; exact turnL_len _ _ l)
  have LV : Hid (V.length = min 12 l.length) := Lib.hid (by rw [← hV]; exact turnL_len _ _ l)
  have SU := Lib.hid (show B5 U by rw [← hU]; exact turn_B5 l bo.out BX.out)
  have SV := Lib.hid (show B5 V by rw [← hV]; exact turn_B5 l bo.out BY.out)
  have EO : Hid (In8 o1 ∧ In8 o2) := Lib.hid (by have := bo.out; unfold In8; omega)
  clear hx hy hU hV hhb hkb hm9b br1 br2
  go_enter Try.func6, Try.ntmps6
  go_wp2_with fail
  refine (head6_is _).mono ?_
  rintro e w1 ⟨rfl, hb1⟩
  replace PA := Lib.hid (prow_below (prow_alloc PA.out (.cells #[.int .i64 X, .int .i64 Y] 35)) hb1)
  have ZB := Lib.hid (blk_call (blk_new w (.cells #[.int .i64 X, .int .i64 Y] 35) (w.heap.size) rfl) hb1)
  have B := Lib.hid (belT (belA (Below.refl _ w) (.cells #[.int .i64 X, .int .i64 Y] 35)) hb1)
  clear hb1
  have z0 := blk_cell ZB.out 0 _ rfl
  have z1 := blk_cell ZB.out 1 _ rfl
  go_wp2_with fail
  refine (at_is o1 o2 _).mono ?_
  rintro e w2 ⟨rfl, hb2⟩
  clear z0 z1
  replace PA := Lib.hid (prow_below PA.out hb2)
  replace ZB := Lib.hid (blk_call ZB.out hb2)
  replace B := Lib.hid (belT B.out hb2)
  clear hb2
  clear ZB
  go_wp2_with fail
  refine (quarter_is _).mono ?_
  rintro e w3 ⟨rfl, hb3⟩
  replace PA := Lib.hid (prow_below (prow_alloc PA.out (.cells #[.int .i64 o1, .int .i64 o2] 35)) hb3)
  have ZO := Lib.hid (blk_call (blk_new w2 (.cells #[.int .i64 o1, .int .i64 o2] 35) (w2.heap.size) rfl) hb3)
  replace B := Lib.hid (belT (belA B.out (.cells #[.int .i64 o1, .int .i64 o2] 35)) hb3)
  clear hb3
  go_wp2_with fail
  refine (quarter_is _).mono ?_
  rintro e w4 ⟨rfl, hb4⟩
  replace PA := Lib.hid (prow_below (prow_alloc PA.out (.cells #[.int .i64 x0, .int .i64 x1] 47)) hb4)
  replace ZO := Lib.hid (blk_call (blk_alloc ZO.out (.cells #[.int .i64 x0, .int .i64 x1] 47)) hb4)
  have ZX := Lib.hid (blk_call (blk_new w3 (.cells #[.int .i64 x0, .int .i64 x1] 47) (w3.heap.size) rfl) hb4)
  replace B := Lib.hid (belT (belA B.out (.cells #[.int .i64 x0, .int .i64 x1] 47)) hb4)
  clear hb4
  go_upto_region 6 with fail
  have ZY := Lib.hid (blk_new w4 (.cells #[.int .i64 y0, .int .i64 y1] 47) _ rfl)
  replace ZO := Lib.hid (blk_alloc ZO.out (.cells #[.int .i64 y0, .int .i64 y1] 47))
  replace ZX := Lib.hid (blk_alloc ZX.out (.cells #[.int .i64 y0, .int .i64 y1] 47))
  replace PA := Lib.hid (prow_alloc PA.out (.cells #[.int .i64 y0, .int .i64 y1] 47))
  replace B := Lib.hid (belA B.out (.cells #[.int .i64 y0, .int .i64 y1] 47))
  generalize w4.alloc (.cells #[.int .i64 y0, .int .i64 y1] 47) = W0 at *
  generalize w4.heap.size = zy at *
  generalize w3.heap.size = zx at *
  generalize w2.heap.size = zo at *
  clear IX IY
  have own1 := (World.ownsRow_lit W0 (base := W0.heap.size) (e := 35) (size := 2) #[] 0 (Nat.le_refl _) (by decide) rfl).alloc (.cells #[] 35)
  have own2 := World.ownsRow_lit (W0.alloc (.cells #[] 35)) (base := W0.heap.size) (e := 35) (size := 2) #[] 0 (by simp) (by decide) rfl
  have bel0 := belA (belA (Below.refl _ W0) (.cells #[] 35)) (.cells #[] 35)
  rw [World.size_alloc] at own2
  go_wp2_with fail
  go_loopw [16, 17, 18] (fun v1 v2 i wr => ∃ (x1 x2 : Value) (k : Nat), x1 = v1 ∧ x2 = v2 ∧ k ≤ l.length ∧ k ≤ 12 ∧ i = .int .i64 k ∧ wr.ownsRow W0.heap.size 35 2 v1 k (flat (U.take k)) ∧ wr.ownsRow W0.heap.size 35 2 v2 k (flat (V.take k)) ∧ v1.ownBlock ≠ v2.ownBlock ∧ Below W0.heap.size W0 wr) (fun _ _ i _ => 12 - (intOf i).toNat)
  case atStart => exact ⟨_, _, 0, rfl, rfl, Nat.zero_le _, Nat.zero_le _, rfl, own1, own2, by simp [Value.ownBlock], bel0⟩
  case round =>
    clear own1 own2 bel0
    obtain ⟨v1, v2, k, rfl, rfl, hkl, hk12, rfl, ho1, ho2, hdj, hBx⟩ := hrel
    have HO1 := Lib.hid ho1
    have HO2 := Lib.hid ho2
    have HDJ := Lib.hid hdj
    have HBX := Lib.hid hBx
    clear ho1 ho2 hdj hBx
    by_cases hlt : k < l.length
    · have hki : (k : Int) < l.length := by omega
      by_cases h12 : k < 12
      · have h12i : (k : Int) < 12 := by omega
        obtain ⟨p, q2, rfl, d1, d2⟩ := prow_at (prow_below PA.out HBX.out) hlt
        have gU : gp U k = turnP (o1, o2) (x0, x1) (fit41 (gp l k)) := by rw [← HU.out]; exact turnL_at _ _ l hlt h12
        have gV : gp V k = turnP (o1, o2) (y0, y1) (fit41 (gp l k)) := by rw [← HV.out]; exact turnL_at _ _ l hlt h12
        obtain ⟨a1, ha1⟩ : ∃ z, (cx l k).tmod 41 = z := ⟨_, rfl⟩
        obtain ⟨a2, ha2⟩ : ∃ z, (cy l k).tmod 41 = z := ⟨_, rfl⟩
        have ba1 : -(41 - 1) ≤ a1 ∧ a1 ≤ 41 - 1 := by rw [← ha1]; exact tmod_bd (by decide)
        have ba2 : -(41 - 1) ≤ a2 ∧ a2 ≤ 41 - 1 := by rw [← ha2]; exact tmod_bd (by decide)
        rw [show fit41 (gp l k) = (a1, a2) from Prod.ext ha1 ha2] at gU gV
        obtain ⟨u1, hu1⟩ : ∃ z, 16 * (a1 * x0 - a2 * x1) = z := ⟨_, rfl⟩
        obtain ⟨u2, hu2⟩ : ∃ z, 16 * (a1 * x1 + a2 * x0) = z := ⟨_, rfl⟩
        obtain ⟨v1', hv1⟩ : ∃ z, 16 * (a1 * y0 - a2 * y1) = z := ⟨_, rfl⟩
        obtain ⟨v2', hv2⟩ : ∃ z, 16 * (a1 * y1 + a2 * y0) = z := ⟨_, rfl⟩
        have hkU : k < U.length := by rw [LU.out]; omega
        have hkV : k < V.length := by rw [LV.out]; omega
        have bU := SU.out _ (gp_mem hkU)
        have bV := SV.out _ (gp_mem hkV)
        have eU1 : cx U k = o1 + u1 := by rw [show cx U k = (gp U k).1 from rfl, gU, ← hu1]; rfl
        have eU2 : cy U k = o2 + u2 := by rw [show cy U k = (gp U k).2 from rfl, gU, ← hu2]; rfl
        have eV1 : cx V k = o1 + v1' := by rw [show cx V k = (gp V k).1 from rfl, gV, ← hv1]; rfl
        have eV2 : cy V k = o2 + v2' := by rw [show cy V k = (gp V k).2 from rfl, gV, ← hv2]; rfl
        have E1 : Hid (flat (U.take (k + 1)) = flat (U.take k) ++ [.int .i64 (o1 + u1), .int .i64 (o2 + u2)]) := Lib.hid (by rw [flat_take U k hkU, eU1, eU2])
        have E2 : Hid (flat (V.take (k + 1)) = flat (V.take k) ++ [.int .i64 (o1 + v1'), .int .i64 (o2 + v2')]) := Lib.hid (by rw [flat_take V k hkV, eV1, eV2])
        change (-100000 ≤ cx U k ∧ cx U k ≤ 100000) ∧ -100000 ≤ cy U k ∧ cy U k ≤ 100000 at bU
        change (-100000 ≤ cx V k ∧ cx V k ≤ 100000) ∧ -100000 ≤ cy V k ∧ cy V k ≤ 100000 at bV
        rw [eU1, eU2] at bU
        rw [eV1, eV2] at bV
        have s1 : IntKind.i64.wrap (o1 + u1) = o1 + u1 := wrap_k _ (by omega)
        have s2 : IntKind.i64.wrap (o2 + u2) = o2 + u2 := wrap_k _ (by omega)
        have s3 : IntKind.i64.wrap (o1 + v1') = o1 + v1' := wrap_k _ (by omega)
        have s4 : IntKind.i64.wrap (o2 + v2') = o2 + v2' := wrap_k _ (by omega)
        have s5 : IntKind.i64.wrap a1 = a1 := wrap_k _ (by omega)
        have s6 : IntKind.i64.wrap a2 = a2 := wrap_k _ (by omega)
        have HA1 := Lib.hid (show (-40 ≤ a1 ∧ a1 ≤ 40) ∧ -40 ≤ a2 ∧ a2 ≤ 40 by omega)
        have H1 := Lib.hid hu1
        have H2 := Lib.hid hu2
        have H3 := Lib.hid hv1
        have H4 := Lib.hid hv2
        have hz0' := HBX.out.size
        generalize cx l k = g1 at *
        generalize cy l k = g2 at *
        clear gU gV hu1 hu2 hv1 hv2 bU bV eU1 eU2 eV1 eV2 ba1 ba2 hkU hkV
        go_upto_region 11 with fail
        obtain ⟨sp, hsp⟩ : ∃ sp : ToldS, sp = [none, none, none, none, none, none, none, none, none, none, none, none, none, none, none, none, none, none, none, some (ptrS wr.heap.size), none, none, none, none, none, none, none, none, none, none, none, none, none, none, none, none, none, none, none, none, none, none, none, none, none, none, none, none, none, none, none, none, none, none, none, none, none, none, none, none, none, none, some (eqS (.slice (some ⟨p, q2, none⟩) l.length ca)), some (eqS (.int .i64 (k : Int))), some (eqS (.pointer (some ⟨p, q2 + k * 2, none⟩))), some (eqS (.pointer (some ⟨p, q2 + k * 2, none⟩))), some (eqS (.int .i64 g1)), some (eqS (.int .i64 a1)), some (eqS (.slice (some ⟨p, q2, none⟩) l.length ca)), some (eqS (.int .i64 (k : Int))), some (eqS (.pointer (some ⟨p, q2 + k * 2, none⟩))), some (eqS (.pointer (some ⟨p, q2 + k * 2 + 1, none⟩))), some (eqS (.int .i64 g2)), some (eqS (.int .i64 a2)), some (eqS (.agg #[.int .i64 a1, .int .i64 a2]))] := ⟨_, rfl⟩
        have s19 : sp.getD 19 none = some (ptrS wr.heap.size) := by rw [hsp]; rfl
        have s62 : sp.getD 62 none = some (eqS (.slice (some ⟨p, q2, none⟩) l.length ca)) := by rw [hsp]; rfl
        have s63 : sp.getD 63 none = some (eqS (.int .i64 (k : Int))) := by rw [hsp]; rfl
        have s64 : sp.getD 64 none = some (eqS (.pointer (some ⟨p, q2 + k * 2, none⟩))) := by rw [hsp]; rfl
        have s65 : sp.getD 65 none = some (eqS (.pointer (some ⟨p, q2 + k * 2, none⟩))) := by rw [hsp]; rfl
        have s66 : sp.getD 66 none = some (eqS (.int .i64 g1)) := by rw [hsp]; rfl
        have s67 : sp.getD 67 none = some (eqS (.int .i64 a1)) := by rw [hsp]; rfl
        have s68 : sp.getD 68 none = some (eqS (.slice (some ⟨p, q2, none⟩) l.length ca)) := by rw [hsp]; rfl
        have s69 : sp.getD 69 none = some (eqS (.int .i64 (k : Int))) := by rw [hsp]; rfl
        have s70 : sp.getD 70 none = some (eqS (.pointer (some ⟨p, q2 + k * 2, none⟩))) := by rw [hsp]; rfl
        have s71 : sp.getD 71 none = some (eqS (.pointer (some ⟨p, q2 + k * 2 + 1, none⟩))) := by rw [hsp]; rfl
        have s72 : sp.getD 72 none = some (eqS (.int .i64 g2)) := by rw [hsp]; rfl
        have s73 : sp.getD 73 none = some (eqS (.int .i64 a2)) := by rw [hsp]; rfl
        have s74 : sp.getD 74 none = some (eqS (.agg #[.int .i64 a1, .int .i64 a2])) := by rw [hsp]; rfl
        clear hsp
        refine (wpIn_wide (n := 0)).1 (region_headR (RtS sp) (rtS_keep sp) 14 rfl rfl rfl (by kernel_rfl) (by decide) (by kernel_rfl) (by kernel_rfl) (by kernel_rfl) ?_ ?_)
        · intro Q'; show ObsR _ _ _ _ _ _ _ _ (List.take _ _); simp only [List.take_succ_cons, List.take_zero]
          refine obsR_cons ?_ ?_
          · intro T wx K hB hF hD hK
            have g1 : T[1]? = some (.slice (some ⟨p, q2, none⟩) l.length ca) := hF 1 (freeM_of (by kernel_rfl))
            refine ob_yes (wanted_none rfl) ?_
            clear hF hD
            go_simp
            exact hK _ _ (Below.refl _ _) (rt_eqS s62)
          refine obsR_cons ?_ ?_
          · intro T wx K hB hF hD hK
            have g18 : T[18]? = some (.int .i64 (k : Int)) := hF 18 (freeM_of (by kernel_rfl))
            refine ob_yes (wanted_none rfl) ?_
            clear hF hD
            go_simp
            exact hK _ _ (Below.refl _ _) (rt_eqS s63)
          refine obsR_cons ?_ ?_
          · intro T wx K hB hF hD hK
            have g62 := get_eqS (hD 0 62 (by simp [Region.binds]) (by kernel_rfl)) s62
            have g63 := get_eqS (hD 1 63 (by simp [Region.binds]) (by kernel_rfl)) s63
            refine ob_yes (wanted_none rfl) ?_
            clear hF hD
            go_simp
            exact hK _ _ (Below.refl _ _) (rt_eqS s64)
          refine obsR_cons ?_ ?_
          · intro T wx K hB hF hD hK
            have g64 := get_eqS (hD 2 64 (by simp [Region.binds]) (by kernel_rfl)) s64
            refine ob_yes (wanted_none rfl) ?_
            clear hF hD
            go_simp
            exact hK _ _ (Below.refl _ _) (rt_eqS s65)
          refine obsR_cons ?_ ?_
          · intro T wx K hB hF hD hK
            have g65 := get_eqS (hD 3 65 (by simp [Region.binds]) (by kernel_rfl)) s65
            refine ob_yes (wanted_none rfl) ?_
            clear hF hD
            have e1 := cell_call d1 hB
            go_simp
            exact hK _ _ (Below.refl _ _) (rt_eqS s66)
          refine obsR_cons ?_ ?_
          · intro T wx K hB hF hD hK
            have g66 := get_eqS (hD 4 66 (by simp [Region.binds]) (by kernel_rfl)) s66
            refine ob_yes (wanted_none rfl) ?_
            clear hF hD
            go_simp
            exact hK _ _ (Below.refl _ _) (rt_eqS s67)
          refine obsR_cons ?_ ?_
          · intro T wx K hB hF hD hK
            have g1 : T[1]? = some (.slice (some ⟨p, q2, none⟩) l.length ca) := hF 1 (freeM_of (by kernel_rfl))
            refine ob_yes (wanted_none rfl) ?_
            clear hF hD
            go_simp
            exact hK _ _ (Below.refl _ _) (rt_eqS s68)
          refine obsR_cons ?_ ?_
          · intro T wx K hB hF hD hK
            have g18 : T[18]? = some (.int .i64 (k : Int)) := hF 18 (freeM_of (by kernel_rfl))
            refine ob_yes (wanted_none rfl) ?_
            clear hF hD
            go_simp
            exact hK _ _ (Below.refl _ _) (rt_eqS s69)
          refine obsR_cons ?_ ?_
          · intro T wx K hB hF hD hK
            have g68 := get_eqS (hD 6 68 (by simp [Region.binds]) (by kernel_rfl)) s68
            have g69 := get_eqS (hD 7 69 (by simp [Region.binds]) (by kernel_rfl)) s69
            refine ob_yes (wanted_none rfl) ?_
            clear hF hD
            go_simp
            exact hK _ _ (Below.refl _ _) (rt_eqS s70)
          refine obsR_cons ?_ ?_
          · intro T wx K hB hF hD hK
            have g70 := get_eqS (hD 8 70 (by simp [Region.binds]) (by kernel_rfl)) s70
            refine ob_yes (wanted_none rfl) ?_
            clear hF hD
            go_simp
            exact hK _ _ (Below.refl _ _) (rt_eqS s71)
          refine obsR_cons ?_ ?_
          · intro T wx K hB hF hD hK
            have g71 := get_eqS (hD 9 71 (by simp [Region.binds]) (by kernel_rfl)) s71
            refine ob_yes (wanted_none rfl) ?_
            clear hF hD
            have e1 := cell_call d2 hB
            go_simp
            exact hK _ _ (Below.refl _ _) (rt_eqS s72)
          refine obsR_cons ?_ ?_
          · intro T wx K hB hF hD hK
            have g72 := get_eqS (hD 10 72 (by simp [Region.binds]) (by kernel_rfl)) s72
            refine ob_yes (wanted_none rfl) ?_
            clear hF hD
            go_simp
            exact hK _ _ (Below.refl _ _) (rt_eqS s73)
          refine obsR_cons ?_ ?_
          · intro T wx K hB hF hD hK
            have g67 := get_eqS (hD 5 67 (by simp [Region.binds]) (by kernel_rfl)) s67
            have g73 := get_eqS (hD 11 73 (by simp [Region.binds]) (by kernel_rfl)) s73
            refine ob_yes (wanted_none rfl) ?_
            clear hF hD
            go_simp
            refine (at_is _ _ _).mono ?_; rintro e w9 ⟨rfl, hb⟩
            exact hK _ _ hb (rt_eqS s74)
          refine obsR_cons ?_ ?_
          · intro T wx K hB hF hD hK
            refine ob_yes (wanted_none rfl) ?_
            clear hF hD
            have hsz := hB.size
            go_simp
            exact hK _ _ (belA (Below.refl _ _) _) (rt_S s19 ⟨_, rfl, by omega, blk_new _ _ _ rfl⟩)
          exact obsR_nil
        · intro T w8 hb hF hs hD
          have g62 := get_eqS (hD 0 62 (by decide) (by kernel_rfl)) s62
          have g63 := get_eqS (hD 1 63 (by decide) (by kernel_rfl)) s63
          have g64 := get_eqS (hD 2 64 (by decide) (by kernel_rfl)) s64
          have g65 := get_eqS (hD 3 65 (by decide) (by kernel_rfl)) s65
          have g66 := get_eqS (hD 4 66 (by decide) (by kernel_rfl)) s66
          have g67 := get_eqS (hD 5 67 (by decide) (by kernel_rfl)) s67
          have g68 := get_eqS (hD 6 68 (by decide) (by kernel_rfl)) s68
          have g69 := get_eqS (hD 7 69 (by decide) (by kernel_rfl)) s69
          have g70 := get_eqS (hD 8 70 (by decide) (by kernel_rfl)) s70
          have g71 := get_eqS (hD 9 71 (by decide) (by kernel_rfl)) s71
          have g72 := get_eqS (hD 10 72 (by decide) (by kernel_rfl)) s72
          have g73 := get_eqS (hD 11 73 (by decide) (by kernel_rfl)) s73
          have g74 := get_eqS (hD 12 74 (by decide) (by kernel_rfl)) s74
          obtain ⟨v19, g19, p19⟩ := getS (hD 13 19 (by decide) (by kernel_rfl)) s19
          have hT := conc [(62, .slice (some ⟨p, q2, none⟩) l.length ca), (63, .int .i64 (k : Int)), (64, .pointer (some ⟨p, q2 + k * 2, none⟩)), (65, .pointer (some ⟨p, q2 + k * 2, none⟩)), (66, .int .i64 g1), (67, .int .i64 a1), (68, .slice (some ⟨p, q2, none⟩) l.length ca), (69, .int .i64 (k : Int)), (70, .pointer (some ⟨p, q2 + k * 2, none⟩)), (71, .pointer (some ⟨p, q2 + k * 2 + 1, none⟩)), (72, .int .i64 g2), (73, .int .i64 a2), (74, .agg #[.int .i64 a1, .int .i64 a2]), (19, v19)] hs hF (by simp only [List.forall_mem_cons]; exact ⟨g62, g63, g64, g65, g66, g67, g68, g69, g70, g71, g72, g73, g74, g19, fun p hp => absurd hp List.not_mem_nil⟩) (by kernel_rfl)
          simp only [List.foldl, List.setIfInBounds_toArray, List.set_cons_succ, List.set_cons_zero] at hT
          subst hT
          clear hF hD hs g62 g63 g64 g65 g66 g67 g68 g69 g70 g71 g72 g73 g74 g19 s19 s62 s63 s64 s65 s66 s67 s68 s69 s70 s71 s72 s73 s74
          show wpOpsIn _ _ _ _ _ [14] _ _
          obtain ⟨zp, rfl, hzp, hbx⟩ := p19
          have f0 := blk_cell hbx 0 _ rfl
          have f1 := blk_cell hbx 1 _ rfl
          have f2 := blk_fz hbx 0
          have f3 := blk_fz hbx 1
          have ZP := Lib.hid (blk_set (j := 1) (blk_set (j := 0) hbx (.int .i64 a1)) (.int .i64 a2))
          have hb9 := belS (p := ⟨zp, 1, none⟩) (belS (p := ⟨zp, 0, none⟩) hb (show wr.heap.size ≤ zp from hzp) (.int .i64 a1)) (show wr.heap.size ≤ zp from hzp) (.int .i64 a2)
          have HB9 := Lib.hid hb9
          clear hb hbx d1 d2 hzp hb9
          simp only [wpOpsIn]
          go_simp
          clear f0 f1 f2 f3
          obtain ⟨w9, hw9⟩ : ∃ W, (w8.setCell ⟨zp, 0, none⟩ (.int .i64 a1)).setCell ⟨zp, 1, none⟩ (.int .i64 a2) = W := ⟨_, rfl⟩
          rw [hw9] at ZP HB9
          rw [hw9]
          clear hw9
          replace ZP := Lib.hid (show w9.heap[zp]? = some (.cells #[.int .i64 a1, .int .i64 a2] 35 (0, 0)) from ZP.out)
          replace HO1 := Lib.hid (own_bel HO1.out HB9.out)
          replace HO2 := Lib.hid (own_bel HO2.out HB9.out)
          replace HBX := Lib.hid (HBX.out.trans (HB9.out.mono (by omega)))
          clear HB9 hz0'
          have fa0 := blk_cell ZP.out 0 _ rfl
          have fa1 := blk_cell ZP.out 1 _ rfl
          have fb0 := blk_cell (blk_call ZX.out HBX.out) 0 _ rfl
          have fb1 := blk_cell (blk_call ZX.out HBX.out) 1 _ rfl
          go_wp2_with fail
          refine (turned_is a1 a2 x0 x1 u1 u2 _ HA1.out.1 HA1.out.2 BX.out.1 BX.out.2 H1 H2).mono ?_
          rintro e w10 ⟨rfl, hb10⟩
          clear fa0 fa1 fb0 fb1
          replace HO1 := Lib.hid (own_bel HO1.out hb10)
          replace HO2 := Lib.hid (own_bel HO2.out hb10)
          replace ZP := Lib.hid (blk_call ZP.out hb10)
          replace HBX := Lib.hid (belT HBX.out hb10)
          clear hb10
          have fa0 := blk_cell (blk_alloc ZP.out (.cells #[.int .i64 u1, .int .i64 u2] 35)) 0 _ rfl
          have fa1 := blk_cell (blk_alloc ZP.out (.cells #[.int .i64 u1, .int .i64 u2] 35)) 1 _ rfl
          have fb0 := blk_cell (blk_alloc (blk_call ZY.out HBX.out) (.cells #[.int .i64 u1, .int .i64 u2] 35)) 0 _ rfl
          have fb1 := blk_cell (blk_alloc (blk_call ZY.out HBX.out) (.cells #[.int .i64 u1, .int .i64 u2] 35)) 1 _ rfl
          go_wp2_with fail
          refine (turned_is a1 a2 y0 y1 v1' v2' _ HA1.out.1 HA1.out.2 BY.out.1 BY.out.2 H3 H4).mono ?_
          rintro e w11 ⟨rfl, hb11⟩
          clear fa0 fa1 fb0 fb1 ZP
          have ZU := Lib.hid (blk_call (blk_new w10 (.cells #[.int .i64 u1, .int .i64 u2] 35) _ rfl) hb11)
          have zlt := hb11.size
          replace HO1 := Lib.hid (own_bel (HO1.out.alloc (.cells #[.int .i64 u1, .int .i64 u2] 35)) hb11)
          replace HO2 := Lib.hid (own_bel (HO2.out.alloc (.cells #[.int .i64 u1, .int .i64 u2] 35)) hb11)
          replace HBX := Lib.hid (belT (belA HBX.out (.cells #[.int .i64 u1, .int .i64 u2] 35)) hb11)
          clear hb11
          have fa0 := blk_cell (blk_alloc ZU.out (.cells #[.int .i64 v1', .int .i64 v2'] 35)) 0 _ rfl
          have fa1 := blk_cell (blk_alloc ZU.out (.cells #[.int .i64 v1', .int .i64 v2'] 35)) 1 _ rfl
          have fb0 := blk_cell (blk_alloc (blk_call ZO.out HBX.out) (.cells #[.int .i64 v1', .int .i64 v2'] 35)) 0 _ rfl
          have fb1 := blk_cell (blk_alloc (blk_call ZO.out HBX.out) (.cells #[.int .i64 v1', .int .i64 v2'] 35)) 1 _ rfl
          go_wp2_with fail
          refine (at_is (o1 + u1) (o2 + u2) _).mono ?_
          rintro e w12 ⟨rfl, hb12⟩
          clear fa0 fa1 fb0 fb1 ZU zlt
          have ZV := Lib.hid (blk_call (blk_new w11 (.cells #[.int .i64 v1', .int .i64 v2'] 35) _ rfl) hb12)
          have NE := Lib.hid (own_ne HO1.out (Nat.le_refl w11.heap.size))
          replace HO1 := Lib.hid (own_bel (HO1.out.alloc (.cells #[.int .i64 v1', .int .i64 v2'] 35)) hb12)
          replace HO2 := Lib.hid (own_bel (HO2.out.alloc (.cells #[.int .i64 v1', .int .i64 v2'] 35)) hb12)
          replace HBX := Lib.hid (belT (belA HBX.out (.cells #[.int .i64 v1', .int .i64 v2'] 35)) hb12)
          clear hb12
          generalize w11.heap.size = zv at *
          have ho3 := HO1.out.alloc (.cells #[.int .i64 (o1 + u1), .int .i64 (o2 + u2)] 35)
          have hz3 := HBX.out.size
          go_wp2_with (at_builtin; refine wpList_append_at rfl _ _ 23 rfl W0.heap.size 35 i0 (.agg #[.int .i64 0, .int .i64 0]) 2 16 Try.underlying23 hi0 hz0 hz1' hz2 rfl (by decide) _ _ _ rfl ho3 ⟨w12.heap.size, 0, none⟩ 1 1 [.int .i64 (o1 + u1), .int .i64 (o2 + u2)] rfl rfl ?ca1 ?ca2 (by decide) ?ca3 ?ca4 ?ca5 ?_)
          try case ca1 =>
            intro j u hj
            match j, hj with
            | 0, hj => simp at hj; subst hj; exact cbx' _ _ _ _ 0 _ rfl rfl
            | 1, hj => simp at hj; subst hj; exact cbx' _ _ _ _ 1 _ rfl rfl
          try case ca2 => intro u hu; simp at hu; rcases hu with rfl | rfl <;> rfl
          try case ca3 => unfold maxLen; omega
          try case ca4 => omega
          try case ca5 => simp; omega
          intro ga capga w13 hown' hgrow hat hlt'
          have HBX' := Lib.hid ((belA HBX.out (.cells #[.int .i64 (o1 + u1), .int .i64 (o2 + u2)] 35)).grown hgrow (by simp; omega) (fun g e => (HO1.out.lt g e).1))
          rw [← E1.out] at hown'
          have HO1' := Lib.hid hown'
          have HO2' := Lib.hid ((HO2.out.alloc (.cells #[.int .i64 (o1 + u1), .int .i64 (o2 + u2)] 35)).kept hgrow (.inr (Ne.symm HDJ.out)))
          have HDJ' : Hid ((Value.slice (some ⟨ga, 0, none⟩) (k + 1) capga).ownBlock ≠ v2.ownBlock) := Lib.hid (by
            show some ga ≠ v2.ownBlock
            rcases hat with h | h
            · rw [← h]; exact HDJ.out
            · exact own_ne HO2.out (by rw [h]; simp))
          have ZV' := Lib.hid ((hgrow.block zv (blk_lt (blk_alloc ZV.out (.cells #[.int .i64 (o1 + u1), .int .i64 (o2 + u2)] 35))) NE.out).trans (blk_alloc ZV.out (.cells #[.int .i64 (o1 + u1), .int .i64 (o2 + u2)] 35)))
          clear hgrow hown' hat hlt' ho3 hz3 NE HBX HO1 HO2 HDJ ZV
          obtain ⟨va, hva⟩ : ∃ v, (Value.slice (some ⟨ga, 0, none⟩) (k + 1) capga) = v := ⟨_, rfl⟩
          rw [hva] at HO1' HDJ'
          rw [hva]
          clear hva
          have HBX := HBX'
          have HO1 := HO1'
          have HO2 := HO2'
          clear HBX' HO1' HO2'
          have fa0 := blk_cell ZV'.out 0 _ rfl
          have fa1 := blk_cell ZV'.out 1 _ rfl
          have fb0 := blk_cell (blk_call ZO.out HBX.out) 0 _ rfl
          have fb1 := blk_cell (blk_call ZO.out HBX.out) 1 _ rfl
          go_wp2_with fail
          refine (at_is (o1 + v1') (o2 + v2') _).mono ?_
          rintro e w14 ⟨rfl, hb14⟩
          clear fa0 fa1 fb0 fb1 ZV'
          replace HO1 := Lib.hid (own_bel HO1.out hb14)
          replace HO2 := Lib.hid (own_bel HO2.out hb14)
          replace HBX := Lib.hid (belT HBX.out hb14)
          clear hb14
          have ho3 := HO2.out.alloc (.cells #[.int .i64 (o1 + v1'), .int .i64 (o2 + v2')] 35)
          have hz3 := HBX.out.size
          go_wp2_with (at_builtin; refine wpList_append_at rfl _ _ 23 rfl W0.heap.size 35 i0 (.agg #[.int .i64 0, .int .i64 0]) 2 16 Try.underlying23 hi0 hz0 hz1' hz2 rfl (by decide) _ _ _ rfl ho3 ⟨w14.heap.size, 0, none⟩ 1 1 [.int .i64 (o1 + v1'), .int .i64 (o2 + v2')] rfl rfl ?cb1 ?cb2 (by decide) ?cb3 ?cb4 ?cb5 ?_)
          try case cb1 =>
            intro j u hj
            match j, hj with
            | 0, hj => simp at hj; subst hj; exact cbx' _ _ _ _ 0 _ rfl rfl
            | 1, hj => simp at hj; subst hj; exact cbx' _ _ _ _ 1 _ rfl rfl
          try case cb2 => intro u hu; simp at hu; rcases hu with rfl | rfl <;> rfl
          try case cb3 => unfold maxLen; omega
          try case cb4 => omega
          try case cb5 => simp; omega
          intro gb capgb w15 hown' hgrow hat hlt'
          have HB9' := Lib.hid ((belA HBX.out (.cells #[.int .i64 (o1 + v1'), .int .i64 (o2 + v2')] 35)).grown hgrow (by simp; omega) (fun g e => (HO2.out.lt g e).1))
          rw [← E2.out] at hown'
          have HP9' := Lib.hid hown'
          have HO9' := Lib.hid ((HO1.out.alloc (.cells #[.int .i64 (o1 + v1'), .int .i64 (o2 + v2')] 35)).kept hgrow (.inr HDJ'.out))
          have HDJ2 : Hid (va.ownBlock ≠ (Value.slice (some ⟨gb, 0, none⟩) (k + 1) capgb).ownBlock) := Lib.hid (by
            show va.ownBlock ≠ some gb
            rcases hat with h | h
            · rw [← h]; exact HDJ'.out
            · exact Ne.symm (own_ne HO1.out (by rw [h]; simp)))
          clear hgrow hown' hat hlt' ho3 hz3 HBX HO1 HO2 HDJ'
          go_wp2
          go_roundw
          case rel => exact ⟨_, _, k + 1, rfl, rfl, by omega, by omega, by go_num, HO9'.out, HP9'.out, HDJ2.out, HB9'.out⟩
          case measure => simp [intOf]; omega
      · have h12i : ¬ (k : Int) < 12 := by omega
        have HK : Hid (k = min 12 l.length) := Lib.hid (by omega)
        obtain ⟨uo, uc, rfl, hp⟩ := own_row (l := U) (base := W0.heap.size) (by have := HO1.out; rw [HK.out, ← LU.out, List.take_length] at this; exact this)
        have QU := Lib.hid hp
        clear hp
        obtain ⟨vo, vc, rfl, hp⟩ := own_row (l := V) (base := W0.heap.size) (by have := HO2.out; rw [HK.out, ← LV.out, List.take_length] at this; exact this)
        have QV := Lib.hid hp
        replace B := Lib.hid (belT B.out HBX.out)
        replace ZO := Lib.hid (blk_call ZO.out HBX.out)
        clear hp HO1 HO2 HDJ HBX PA ZX ZY HK
        generalize wr = w20 at *
        have lU : U.length ≤ 12 := by rw [LU.out]; omega
        have lUV : U.length = V.length := by rw [LU.out, LV.out]
        obtain ⟨u, hu⟩ : ∃ u, hullL (ptsL (o1, o2) U V) = u := ⟨_, rfl⟩
        have HR : Hid (regL (o1, o2) U V = u) := Lib.hid (by rw [← hu]; exact if_pos ⟨lUV, lU⟩)
        obtain ⟨t, ht⟩ : ∃ t, decide (u ≠ []) = t := ⟨_, rfl⟩
        have HT := Lib.hid ht
        have hul : u.length ≤ 36 := by rw [← HR.out]; exact reg_len
        have VOR := Lib.hid (out_allV (o := (o1, o2)) EO.out.1 EO.out.2 (b5_8 SU.out) (b5_8 SV.out))
        have HC : Hid ((u = [] ∧ ∀ p ∈ ptsL (o1, o2) U V, ∀ q ∈ ptsL (o1, o2) U V, ∀ r ∈ ptsL (o1, o2) U V, dt p q r = 0) ∨ (u ≠ [] ∧ IsHull (ptsL (o1, o2) U V) u)) := Lib.hid (by rw [← hu]; exact hull_cases _)
        have lv12 : V.length ≤ 12 := by omega
        clear hu ht lUV
        have z0 := blk_cell ZO.out 0 _ rfl
        have z1 := blk_cell ZO.out 1 _ rfl
        go_wp2_with fail
        refine (region_is uo vo _ _ uc vc o1 o2 U V u t _ rfl rfl HR HT (by omega) (by omega) QU.out QV.out (small8_V (b5_8 SU.out)) (small8_V (b5_8 SV.out)) (in8_V EO.out.1) (in8_V EO.out.2) VOR.out).mono ?_
        rintro e w31 ⟨⟨po, pc, rfl, hp⟩, hb31⟩
        clear z0 z1
        replace QU := Lib.hid (prow_below QU.out hb31)
        replace QV := Lib.hid (prow_below QV.out hb31)
        replace ZO := Lib.hid (blk_call ZO.out hb31)
        replace B := Lib.hid (belT B.out hb31)
        clear hb31
        have QP := Lib.hid hp
        clear hp QV
        obtain ⟨tw, htw⟩ : ∃ tw, decide (kk * (4225 + (x0 * y0 + x1 * y1)) ≤ h * (x0 * y1 - x1 * y0)) = tw := ⟨_, rfl⟩
        have HTW := Lib.hid htw
        clear htw
        cases t with
        | false =>
          go_wp2_with fail
          go_ret
          exact ⟨rfl, B.out⟩
        | true =>
          go_wp2_with fail
          refine (way_is q kk h x0 x1 y0 y1 tw _ hq9 HX HY (by have := HB.out; omega) (by have := HB.out; omega) HTW).mono ?_
          rintro e w32 ⟨rfl, hb32⟩
          replace QU := Lib.hid (prow_below QU.out hb32)
          replace ZO := Lib.hid (blk_call ZO.out hb32)
          replace QP := Lib.hid (prow_below QP.out hb32)
          replace B := Lib.hid (belT B.out hb32)
          clear hb32
          cases tw with
          | false =>
            go_wp2_with fail
            go_ret
            exact ⟨rfl, B.out⟩
          | true =>
            have hI : IsHull (ptsL (o1, o2) U V) u := HC.out.elim (fun h => absurd h.1 (by have := HT.out; simpa using this)) (fun h => h.2)
            have HI := Lib.hid hI
            have hu0 : 0 < u.length := by have := hI.1.1; omega
            have HBU : Hid (∀ i, i < u.length → (-200000 ≤ cx u i ∧ cx u i ≤ 200000) ∧ -200000 ≤ cy u i ∧ cy u i ≤ 200000) := Lib.hid (fun i hi => pts_bd5 (o := (o1, o2)) bo.out SU.out SV.out _ (HI.out.2.1 i hi))
            have HWW : Hid (kk * (4225 + (x0 * y0 + x1 * y1)) ≤ h * (x0 * y1 - x1 * y0)) := Lib.hid (of_decide_eq_true HTW.out)
            have qh := HB.out
            have n1 := prod_bd (A := 99) (B := 99) (a := h) (b := h) (by omega) (by omega)
            have n2 := prod_bd (A := 99) (B := 99) (a := kk) (b := kk) (by omega) (by omega)
            have n3 := Int.mul_le_mul (show kk ≤ h by omega) (show kk ≤ h by omega) (by omega) (by omega)
            have n4 := sq_nn kk
            have w1' : IntKind.i64.wrap (h * h) = h * h := wrap_k _ (by omega)
            have w2' : IntKind.i64.wrap (kk * kk) = kk * kk := wrap_k _ (by omega)
            have w3' : IntKind.i64.wrap (h * h + kk * kk) = h * h + kk * kk := wrap_k _ (by omega)
            have w4' : IntKind.i64.wrap (h * h - kk * kk) = h * h - kk * kk := wrap_k _ (by omega)
            have BD : Hid (0 ≤ h * h - kk * kk ∧ h * h - kk * kk ≤ 9801 ∧ 0 ≤ h * h + kk * kk ∧ h * h + kk * kk ≤ 19602) := Lib.hid (by omega)
            clear hI qh n1 n2 n3 n4
            go_wp2
            go_loopw [27] (fun i wr => ∃ j : Nat, j ≤ U.length ∧ i = .int .i64 j ∧ Below w32.heap.size w32 wr) (fun i _ => U.length - (intOf i).toNat)
            case atStart => exact ⟨0, Nat.zero_le _, rfl, Below.refl _ _⟩
            case round =>
              obtain ⟨j, hj, rfl, hBx⟩ := hrel
              have HBX := Lib.hid hBx
              clear hBx
              by_cases hju : j < U.length
              · have hji : (j : Int) < U.length := by omega
                obtain ⟨p, q2, rfl, d1, d2⟩ := prow_at (prow_below QU.out HBX.out) hju
                have hjl : j < l.length ∧ j < 12 := by have := LU.out; omega
                obtain ⟨U1, hU1⟩ : ∃ z, cx U j - o1 = z := ⟨_, rfl⟩
                obtain ⟨U2, hU2⟩ : ∃ z, cy U j - o2 = z := ⟨_, rfl⟩
                have bU := SU.out _ (gp_mem hju)
                change (-100000 ≤ cx U j ∧ cx U j ≤ 100000) ∧ -100000 ≤ cy U j ∧ cy U j ≤ 100000 at bU
                have bo' := bo.out
                have bu1 : -120000 ≤ U1 ∧ U1 ≤ 120000 := by omega
                have bu2 : -120000 ≤ U2 ∧ U2 ≤ 120000 := by omega
                have HIN : Hid (∀ i, i < u.length → 0 ≤ (cx u (nx u.length i) - cx u i) * (U2 * (h * h - kk * kk) + U1 * 2 * h * kk + (h * h + kk * kk) * (o2 - cy u i)) - (cy u (nx u.length i) - cy u i) * (U1 * (h * h - kk * kk) - U2 * 2 * h * kk + (h * h + kk * kk) * (o1 - cx u i))) := Lib.hid (by
                  obtain ⟨T1, T2, T3, T4, T5⟩ := TF.out
                  have := HB.out
                  exact arc_in (o := (o1, o2)) (x := (x0, x1)) (y := (y0, y1)) (l := l) T1 T2 T3 T4 T5 (by omega) (by omega) HWW.out (by rw [HU.out, HV.out]; exact HI.out) hjl.1 hjl.2 (by rw [HU.out]; exact hU1.symm) (by rw [HU.out]; exact hU2.symm) rfl rfl)
                obtain ⟨bd1, bd2, bd3, bd4⟩ := BD.out
                have qh := HB.out
                have m1 := prod_bd (A := 120000) (B := 9801) bu1 (show -9801 ≤ h * h - kk * kk ∧ h * h - kk * kk ≤ 9801 by omega)
                have m2 := prod_bd (A := 120000) (B := 9801) bu2 (show -9801 ≤ h * h - kk * kk ∧ h * h - kk * kk ≤ 9801 by omega)
                have m3 := prod_bd (A := 240000) (B := 99) (a := U1 * 2) (b := h) (by omega) (by omega)
                have m4 := prod_bd (A := 240000) (B := 99) (a := U2 * 2) (b := h) (by omega) (by omega)
                have m5 := prod_bd (A := 23760000) (B := 99) (a := U1 * 2 * h) (b := kk) (by omega) (by omega)
                have m6 := prod_bd (A := 23760000) (B := 99) (a := U2 * 2 * h) (b := kk) (by omega) (by omega)
                have : IntKind.i64.wrap (U1) = U1 := by rw [IntKind.wrap_i64]; omega
                have : IntKind.i64.wrap (U2) = U2 := by rw [IntKind.wrap_i64]; omega
                have : IntKind.i64.wrap (U1 * (h * h - kk * kk)) = U1 * (h * h - kk * kk) := by rw [IntKind.wrap_i64]; omega
                have : IntKind.i64.wrap (U2 * (h * h - kk * kk)) = U2 * (h * h - kk * kk) := by rw [IntKind.wrap_i64]; omega
                have : IntKind.i64.wrap (U1 * 2) = U1 * 2 := by rw [IntKind.wrap_i64]; omega
                have : IntKind.i64.wrap (U2 * 2) = U2 * 2 := by rw [IntKind.wrap_i64]; omega
                have : IntKind.i64.wrap (U1 * 2 * h) = U1 * 2 * h := by rw [IntKind.wrap_i64]; omega
                have : IntKind.i64.wrap (U2 * 2 * h) = U2 * 2 * h := by rw [IntKind.wrap_i64]; omega
                have : IntKind.i64.wrap (U1 * 2 * h * kk) = U1 * 2 * h * kk := by rw [IntKind.wrap_i64]; omega
                have : IntKind.i64.wrap (U2 * 2 * h * kk) = U2 * 2 * h * kk := by rw [IntKind.wrap_i64]; omega
                have : IntKind.i64.wrap (U1 * (h * h - kk * kk) - U2 * 2 * h * kk) = U1 * (h * h - kk * kk) - U2 * 2 * h * kk := by rw [IntKind.wrap_i64]; omega
                have : IntKind.i64.wrap (U2 * (h * h - kk * kk) + U1 * 2 * h * kk) = U2 * (h * h - kk * kk) + U1 * 2 * h * kk := by rw [IntKind.wrap_i64]; omega
                have BW := Lib.hid (show (-10000000000 ≤ U1 * (h * h - kk * kk) - U2 * 2 * h * kk ∧ U1 * (h * h - kk * kk) - U2 * 2 * h * kk ≤ 10000000000) ∧ -10000000000 ≤ U2 * (h * h - kk * kk) + U1 * 2 * h * kk ∧ U2 * (h * h - kk * kk) + U1 * 2 * h * kk ≤ 10000000000 by omega)
                have X2 := blk_call ZO.out HBX.out
                have z0 := blk_cell X2 0 _ rfl
                have z1 := blk_cell X2 1 _ rfl
                have hz0' := HBX.out.size
                clear X2 m1 m2 m3 m4 m5 m6 bu1 bu2 bU bo' bd1 bd2 bd3 bd4 qh
                generalize cx U j = g1 at *
                generalize cy U j = g2 at *
                go_upto_region 25 with fail
                obtain ⟨sp, hsp⟩ : ∃ sp : ToldS, sp = [none, none, none, none, none, none, none, none, none, none, none, none, none, none, none, none, none, none, none, none, none, none, none, none, none, none, none, none, some (ptrS wr.heap.size), none, none, none, none, none, none, none, none, none, none, none, none, none, none, none, none, none, none, none, none, none, none, none, none, none, none, none, none, none, none, none, none, none, none, none, none, none, none, none, none, none, none, none, none, none, none, none, none, none, none, none, none, none, none, none, none, none, none, none, none, none, none, none, none, none, none, none, none, none, none, none, none, none, none, none, none, none, none, none, none, none, none, none, none, none, none, none, none, none, none, none, none, none, none, none, none, none, none, none, none, none, none, none, none, none, none, none, none, none, none, none, none, none, none, none, none, none, none, none, none, none, none, none, none, none, some (eqS (.slice (some ⟨p, q2, none⟩) U.length uc)), some (eqS (.int .i64 (j : Int))), some (eqS (.pointer (some ⟨p, q2 + j * 2, none⟩))), some (eqS (.pointer (some ⟨p, q2 + j * 2, none⟩))), some (eqS (.int .i64 g1)), some (eqS (.pointer (some ⟨zo, 0, none⟩))), some (eqS (.int .i64 o1)), some (eqS (.int .i64 U1)), some (eqS (.slice (some ⟨p, q2, none⟩) U.length uc)), some (eqS (.int .i64 (j : Int))), some (eqS (.pointer (some ⟨p, q2 + j * 2, none⟩))), some (eqS (.pointer (some ⟨p, q2 + j * 2 + 1, none⟩))), some (eqS (.int .i64 g2)), some (eqS (.pointer (some ⟨zo, 1, none⟩))), some (eqS (.int .i64 o2)), some (eqS (.int .i64 U2)), some (eqS (.agg #[.int .i64 U1, .int .i64 U2]))] := ⟨_, rfl⟩
                have s28 : sp.getD 28 none = some (ptrS wr.heap.size) := by rw [hsp]; rfl
                have s154 : sp.getD 154 none = some (eqS (.slice (some ⟨p, q2, none⟩) U.length uc)) := by rw [hsp]; rfl
                have s155 : sp.getD 155 none = some (eqS (.int .i64 (j : Int))) := by rw [hsp]; rfl
                have s156 : sp.getD 156 none = some (eqS (.pointer (some ⟨p, q2 + j * 2, none⟩))) := by rw [hsp]; rfl
                have s157 : sp.getD 157 none = some (eqS (.pointer (some ⟨p, q2 + j * 2, none⟩))) := by rw [hsp]; rfl
                have s158 : sp.getD 158 none = some (eqS (.int .i64 g1)) := by rw [hsp]; rfl
                have s159 : sp.getD 159 none = some (eqS (.pointer (some ⟨zo, 0, none⟩))) := by rw [hsp]; rfl
                have s160 : sp.getD 160 none = some (eqS (.int .i64 o1)) := by rw [hsp]; rfl
                have s161 : sp.getD 161 none = some (eqS (.int .i64 U1)) := by rw [hsp]; rfl
                have s162 : sp.getD 162 none = some (eqS (.slice (some ⟨p, q2, none⟩) U.length uc)) := by rw [hsp]; rfl
                have s163 : sp.getD 163 none = some (eqS (.int .i64 (j : Int))) := by rw [hsp]; rfl
                have s164 : sp.getD 164 none = some (eqS (.pointer (some ⟨p, q2 + j * 2, none⟩))) := by rw [hsp]; rfl
                have s165 : sp.getD 165 none = some (eqS (.pointer (some ⟨p, q2 + j * 2 + 1, none⟩))) := by rw [hsp]; rfl
                have s166 : sp.getD 166 none = some (eqS (.int .i64 g2)) := by rw [hsp]; rfl
                have s167 : sp.getD 167 none = some (eqS (.pointer (some ⟨zo, 1, none⟩))) := by rw [hsp]; rfl
                have s168 : sp.getD 168 none = some (eqS (.int .i64 o2)) := by rw [hsp]; rfl
                have s169 : sp.getD 169 none = some (eqS (.int .i64 U2)) := by rw [hsp]; rfl
                have s170 : sp.getD 170 none = some (eqS (.agg #[.int .i64 U1, .int .i64 U2])) := by rw [hsp]; rfl
                clear hsp
                refine (wpIn_wide (n := 0)).1 (region_headR (RtS sp) (rtS_keep sp) 18 rfl rfl rfl (by kernel_rfl) (by decide) (by kernel_rfl) (by kernel_rfl) (by kernel_rfl) ?_ ?_)
                · intro Q'; show ObsR _ _ _ _ _ _ _ _ (List.take _ _); simp only [List.take_succ_cons, List.take_zero]
                  refine obsR_cons ?_ ?_
                  · intro T wx K hB hF hD hK
                    have g16 : T[16]? = some (.slice (some ⟨p, q2, none⟩) U.length uc) := hF 16 (freeM_of (by kernel_rfl))
                    refine ob_yes (wanted_none rfl) ?_
                    clear hF hD
                    go_simp
                    exact hK _ _ (Below.refl _ _) (rt_eqS s154)
                  refine obsR_cons ?_ ?_
                  · intro T wx K hB hF hD hK
                    have g27 : T[27]? = some (.int .i64 (j : Int)) := hF 27 (freeM_of (by kernel_rfl))
                    refine ob_yes (wanted_none rfl) ?_
                    clear hF hD
                    go_simp
                    exact hK _ _ (Below.refl _ _) (rt_eqS s155)
                  refine obsR_cons ?_ ?_
                  · intro T wx K hB hF hD hK
                    have g154 := get_eqS (hD 0 154 (by simp [Region.binds]) (by kernel_rfl)) s154
                    have g155 := get_eqS (hD 1 155 (by simp [Region.binds]) (by kernel_rfl)) s155
                    refine ob_yes (wanted_none rfl) ?_
                    clear hF hD
                    go_simp
                    exact hK _ _ (Below.refl _ _) (rt_eqS s156)
                  refine obsR_cons ?_ ?_
                  · intro T wx K hB hF hD hK
                    have g156 := get_eqS (hD 2 156 (by simp [Region.binds]) (by kernel_rfl)) s156
                    refine ob_yes (wanted_none rfl) ?_
                    clear hF hD
                    go_simp
                    exact hK _ _ (Below.refl _ _) (rt_eqS s157)
                  refine obsR_cons ?_ ?_
                  · intro T wx K hB hF hD hK
                    have g157 := get_eqS (hD 3 157 (by simp [Region.binds]) (by kernel_rfl)) s157
                    refine ob_yes (wanted_none rfl) ?_
                    clear hF hD
                    have e1 := cell_call d1 hB
                    go_simp
                    exact hK _ _ (Below.refl _ _) (rt_eqS s158)
                  refine obsR_cons ?_ ?_
                  · intro T wx K hB hF hD hK
                    have g12 : T[12]? = some (.pointer (some ⟨zo, 0, none⟩)) := hF 12 (freeM_of (by kernel_rfl))
                    refine ob_yes (wanted_none rfl) ?_
                    clear hF hD
                    go_simp
                    exact hK _ _ (Below.refl _ _) (rt_eqS s159)
                  refine obsR_cons ?_ ?_
                  · intro T wx K hB hF hD hK
                    have g159 := get_eqS (hD 5 159 (by simp [Region.binds]) (by kernel_rfl)) s159
                    refine ob_yes (wanted_none rfl) ?_
                    clear hF hD
                    have e1 := cell_call z0 hB
                    go_simp
                    exact hK _ _ (Below.refl _ _) (rt_eqS s160)
                  refine obsR_cons ?_ ?_
                  · intro T wx K hB hF hD hK
                    have g158 := get_eqS (hD 4 158 (by simp [Region.binds]) (by kernel_rfl)) s158
                    have g160 := get_eqS (hD 6 160 (by simp [Region.binds]) (by kernel_rfl)) s160
                    refine ob_yes (wanted_none rfl) ?_
                    clear hF hD
                    go_simp
                    exact hK _ _ (Below.refl _ _) (rt_eqS s161)
                  refine obsR_cons ?_ ?_
                  · intro T wx K hB hF hD hK
                    have g16 : T[16]? = some (.slice (some ⟨p, q2, none⟩) U.length uc) := hF 16 (freeM_of (by kernel_rfl))
                    refine ob_yes (wanted_none rfl) ?_
                    clear hF hD
                    go_simp
                    exact hK _ _ (Below.refl _ _) (rt_eqS s162)
                  refine obsR_cons ?_ ?_
                  · intro T wx K hB hF hD hK
                    have g27 : T[27]? = some (.int .i64 (j : Int)) := hF 27 (freeM_of (by kernel_rfl))
                    refine ob_yes (wanted_none rfl) ?_
                    clear hF hD
                    go_simp
                    exact hK _ _ (Below.refl _ _) (rt_eqS s163)
                  refine obsR_cons ?_ ?_
                  · intro T wx K hB hF hD hK
                    have g162 := get_eqS (hD 8 162 (by simp [Region.binds]) (by kernel_rfl)) s162
                    have g163 := get_eqS (hD 9 163 (by simp [Region.binds]) (by kernel_rfl)) s163
                    refine ob_yes (wanted_none rfl) ?_
                    clear hF hD
                    go_simp
                    exact hK _ _ (Below.refl _ _) (rt_eqS s164)
                  refine obsR_cons ?_ ?_
                  · intro T wx K hB hF hD hK
                    have g164 := get_eqS (hD 10 164 (by simp [Region.binds]) (by kernel_rfl)) s164
                    refine ob_yes (wanted_none rfl) ?_
                    clear hF hD
                    go_simp
                    exact hK _ _ (Below.refl _ _) (rt_eqS s165)
                  refine obsR_cons ?_ ?_
                  · intro T wx K hB hF hD hK
                    have g165 := get_eqS (hD 11 165 (by simp [Region.binds]) (by kernel_rfl)) s165
                    refine ob_yes (wanted_none rfl) ?_
                    clear hF hD
                    have e1 := cell_call d2 hB
                    go_simp
                    exact hK _ _ (Below.refl _ _) (rt_eqS s166)
                  refine obsR_cons ?_ ?_
                  · intro T wx K hB hF hD hK
                    have g12 : T[12]? = some (.pointer (some ⟨zo, 0, none⟩)) := hF 12 (freeM_of (by kernel_rfl))
                    refine ob_yes (wanted_none rfl) ?_
                    clear hF hD
                    go_simp
                    exact hK _ _ (Below.refl _ _) (rt_eqS s167)
                  refine obsR_cons ?_ ?_
                  · intro T wx K hB hF hD hK
                    have g167 := get_eqS (hD 13 167 (by simp [Region.binds]) (by kernel_rfl)) s167
                    refine ob_yes (wanted_none rfl) ?_
                    clear hF hD
                    have e1 := cell_call z1 hB
                    go_simp
                    exact hK _ _ (Below.refl _ _) (rt_eqS s168)
                  refine obsR_cons ?_ ?_
                  · intro T wx K hB hF hD hK
                    have g166 := get_eqS (hD 12 166 (by simp [Region.binds]) (by kernel_rfl)) s166
                    have g168 := get_eqS (hD 14 168 (by simp [Region.binds]) (by kernel_rfl)) s168
                    refine ob_yes (wanted_none rfl) ?_
                    clear hF hD
                    go_simp
                    exact hK _ _ (Below.refl _ _) (rt_eqS s169)
                  refine obsR_cons ?_ ?_
                  · intro T wx K hB hF hD hK
                    have g161 := get_eqS (hD 7 161 (by simp [Region.binds]) (by kernel_rfl)) s161
                    have g169 := get_eqS (hD 15 169 (by simp [Region.binds]) (by kernel_rfl)) s169
                    refine ob_yes (wanted_none rfl) ?_
                    clear hF hD
                    go_simp
                    refine (at_is _ _ _).mono ?_; rintro e w9 ⟨rfl, hb⟩
                    exact hK _ _ hb (rt_eqS s170)
                  refine obsR_cons ?_ ?_
                  · intro T wx K hB hF hD hK
                    refine ob_yes (wanted_none rfl) ?_
                    clear hF hD
                    have hsz := hB.size
                    go_simp
                    exact hK _ _ (belA (Below.refl _ _) _) (rt_S s28 ⟨_, rfl, by omega, blk_new _ _ _ rfl⟩)
                  exact obsR_nil
                · intro T w8 hb hF hs hD
                  have g154 := get_eqS (hD 0 154 (by decide) (by kernel_rfl)) s154
                  have g155 := get_eqS (hD 1 155 (by decide) (by kernel_rfl)) s155
                  have g156 := get_eqS (hD 2 156 (by decide) (by kernel_rfl)) s156
                  have g157 := get_eqS (hD 3 157 (by decide) (by kernel_rfl)) s157
                  have g158 := get_eqS (hD 4 158 (by decide) (by kernel_rfl)) s158
                  have g159 := get_eqS (hD 5 159 (by decide) (by kernel_rfl)) s159
                  have g160 := get_eqS (hD 6 160 (by decide) (by kernel_rfl)) s160
                  have g161 := get_eqS (hD 7 161 (by decide) (by kernel_rfl)) s161
                  have g162 := get_eqS (hD 8 162 (by decide) (by kernel_rfl)) s162
                  have g163 := get_eqS (hD 9 163 (by decide) (by kernel_rfl)) s163
                  have g164 := get_eqS (hD 10 164 (by decide) (by kernel_rfl)) s164
                  have g165 := get_eqS (hD 11 165 (by decide) (by kernel_rfl)) s165
                  have g166 := get_eqS (hD 12 166 (by decide) (by kernel_rfl)) s166
                  have g167 := get_eqS (hD 13 167 (by decide) (by kernel_rfl)) s167
                  have g168 := get_eqS (hD 14 168 (by decide) (by kernel_rfl)) s168
                  have g169 := get_eqS (hD 15 169 (by decide) (by kernel_rfl)) s169
                  have g170 := get_eqS (hD 16 170 (by decide) (by kernel_rfl)) s170
                  obtain ⟨v28, g28, p28⟩ := getS (hD 17 28 (by decide) (by kernel_rfl)) s28
                  have hT := conc [(154, .slice (some ⟨p, q2, none⟩) U.length uc), (155, .int .i64 (j : Int)), (156, .pointer (some ⟨p, q2 + j * 2, none⟩)), (157, .pointer (some ⟨p, q2 + j * 2, none⟩)), (158, .int .i64 g1), (159, .pointer (some ⟨zo, 0, none⟩)), (160, .int .i64 o1), (161, .int .i64 U1), (162, .slice (some ⟨p, q2, none⟩) U.length uc), (163, .int .i64 (j : Int)), (164, .pointer (some ⟨p, q2 + j * 2, none⟩)), (165, .pointer (some ⟨p, q2 + j * 2 + 1, none⟩)), (166, .int .i64 g2), (167, .pointer (some ⟨zo, 1, none⟩)), (168, .int .i64 o2), (169, .int .i64 U2), (170, .agg #[.int .i64 U1, .int .i64 U2]), (28, v28)] hs hF (by simp only [List.forall_mem_cons]; exact ⟨g154, g155, g156, g157, g158, g159, g160, g161, g162, g163, g164, g165, g166, g167, g168, g169, g170, g28, fun p hp => absurd hp List.not_mem_nil⟩) (by kernel_rfl)
                  simp only [List.foldl, List.setIfInBounds_toArray, List.set_cons_succ, List.set_cons_zero] at hT
                  subst hT
                  clear hF hD hs g154 g155 g156 g157 g158 g159 g160 g161 g162 g163 g164 g165 g166 g167 g168 g169 g170 g28 s28 s154 s155 s156 s157 s158 s159 s160 s161 s162 s163 s164 s165 s166 s167 s168 s169 s170
                  show wpOpsIn _ _ _ _ _ [18] _ _
                  obtain ⟨zu, rfl, hzu, hbx⟩ := p28
                  have f0 := blk_cell hbx 0 _ rfl
                  have f1 := blk_cell hbx 1 _ rfl
                  have f2 := blk_fz hbx 0
                  have f3 := blk_fz hbx 1
                  have ZU := Lib.hid (blk_set (j := 1) (blk_set (j := 0) hbx (.int .i64 U1)) (.int .i64 U2))
                  have HB9 := Lib.hid (belS (p := ⟨zu, 1, none⟩) (belS (p := ⟨zu, 0, none⟩) hb (show wr.heap.size ≤ zu from hzu) (.int .i64 U1)) (show wr.heap.size ≤ zu from hzu) (.int .i64 U2))
                  clear hb hbx d1 d2 z0 z1 hzu
                  simp only [wpOpsIn]
                  go_simp
                  clear f0 f1 f2 f3
                  obtain ⟨w9, hw9⟩ : ∃ W, (w8.setCell ⟨zu, 0, none⟩ (.int .i64 U1)).setCell ⟨zu, 1, none⟩ (.int .i64 U2) = W := ⟨_, rfl⟩
                  rw [hw9] at ZU HB9
                  rw [hw9]
                  clear hw9
                  replace ZU := Lib.hid (show w9.heap[zu]? = some (.cells #[.int .i64 U1, .int .i64 U2] 35 (0, 0)) from ZU.out)
                  replace HBX := Lib.hid (HBX.out.trans (HB9.out.mono (by omega)))
                  clear HB9 hz0'
                  have y0' := blk_cell ZU.out 0 _ rfl
                  have y1' := blk_cell ZU.out 1 _ rfl
                  go_wp2_with fail
                  refine (at_is (U1 * (h * h - kk * kk) - U2 * 2 * h * kk) (U2 * (h * h - kk * kk) + U1 * 2 * h * kk) _).mono ?_
                  rintro e w10 ⟨rfl, hb10⟩
                  replace HBX := Lib.hid (belT HBX.out hb10)
                  clear y0' y1' ZU hb10
                  obtain ⟨wx, hwx⟩ : ∃ z, U1 * (h * h - kk * kk) - U2 * 2 * h * kk = z := ⟨_, rfl⟩
                  obtain ⟨wy, hwy⟩ : ∃ z, U2 * (h * h - kk * kk) + U1 * 2 * h * kk = z := ⟨_, rfl⟩
                  rw [hwx, hwy] at BW HIN
                  rw [hwx, hwy]
                  clear hwx hwy
                  have X2 := blk_alloc (blk_call ZO.out HBX.out) (.cells #[.int .i64 wx, .int .i64 wy] 35)
                  have z0 := blk_cell X2 0 _ rfl
                  have z1 := blk_cell X2 1 _ rfl
                  have QP2 := Lib.hid (prow_alloc (prow_below QP.out HBX.out) (.cells #[.int .i64 wx, .int .i64 wy] 35))
                  have HB10 := Lib.hid (belA HBX.out (.cells #[.int .i64 wx, .int .i64 wy] 35))
                  clear X2 HBX
                  go_wp2_with fail
                  refine (inside_is po _ pc u o1 o2 wx wy (h * h + kk * kk) _ rfl hu0 (by omega) QP2.out HBU.out (by have := bo.out; omega) (by have := bo.out; omega) BW.out.1 BW.out.2 (by have := BD.out; omega) HIN).mono ?_
                  rintro e w11 ⟨rfl, hb11⟩
                  have HB11 := Lib.hid (belT HB10.out hb11)
                  clear z0 z1 hb11
                  go_wp2
                  go_roundw
                  case rel => exact ⟨j + 1, by omega, by go_num, HB11.out⟩
                  case measure => simp [intOf]; omega
              · have hji : ¬ (j : Int) < U.length := by omega
                have HB9 := Lib.hid (belT B.out HBX.out)
                go_wp2
                go_ret
                exact ⟨rfl, HB9.out⟩
    · have hki : ¬ (k : Int) < l.length := by omega
      have HK : Hid (k = min 12 l.length) := Lib.hid (by omega)
      obtain ⟨uo, uc, rfl, hp⟩ := own_row (l := U) (base := W0.heap.size) (by have := HO1.out; rw [HK.out, ← LU.out, List.take_length] at this; exact this)
      have QU := Lib.hid hp
      clear hp
      obtain ⟨vo, vc, rfl, hp⟩ := own_row (l := V) (base := W0.heap.size) (by have := HO2.out; rw [HK.out, ← LV.out, List.take_length] at this; exact this)
      have QV := Lib.hid hp
      replace B := Lib.hid (belT B.out HBX.out)
      replace ZO := Lib.hid (blk_call ZO.out HBX.out)
      clear hp HO1 HO2 HDJ HBX PA ZX ZY HK
      generalize wr = w20 at *
      have lU : U.length ≤ 12 := by rw [LU.out]; omega
      have lUV : U.length = V.length := by rw [LU.out, LV.out]
      obtain ⟨u, hu⟩ : ∃ u, hullL (ptsL (o1, o2) U V) = u := ⟨_, rfl⟩
      have HR : Hid (regL (o1, o2) U V = u) := Lib.hid (by rw [← hu]; exact if_pos ⟨lUV, lU⟩)
      obtain ⟨t, ht⟩ : ∃ t, decide (u ≠ []) = t := ⟨_, rfl⟩
      have HT := Lib.hid ht
      have hul : u.length ≤ 36 := by rw [← HR.out]; exact reg_len
      have VOR := Lib.hid (out_allV (o := (o1, o2)) EO.out.1 EO.out.2 (b5_8 SU.out) (b5_8 SV.out))
      have HC : Hid ((u = [] ∧ ∀ p ∈ ptsL (o1, o2) U V, ∀ q ∈ ptsL (o1, o2) U V, ∀ r ∈ ptsL (o1, o2) U V, dt p q r = 0) ∨ (u ≠ [] ∧ IsHull (ptsL (o1, o2) U V) u)) := Lib.hid (by rw [← hu]; exact hull_cases _)
      have lv12 : V.length ≤ 12 := by omega
      clear hu ht lUV
      have z0 := blk_cell ZO.out 0 _ rfl
      have z1 := blk_cell ZO.out 1 _ rfl
      go_wp2_with fail
      refine (region_is uo vo _ _ uc vc o1 o2 U V u t _ rfl rfl HR HT (by omega) (by omega) QU.out QV.out (small8_V (b5_8 SU.out)) (small8_V (b5_8 SV.out)) (in8_V EO.out.1) (in8_V EO.out.2) VOR.out).mono ?_
      rintro e w31 ⟨⟨po, pc, rfl, hp⟩, hb31⟩
      clear z0 z1
      replace QU := Lib.hid (prow_below QU.out hb31)
      replace QV := Lib.hid (prow_below QV.out hb31)
      replace ZO := Lib.hid (blk_call ZO.out hb31)
      replace B := Lib.hid (belT B.out hb31)
      clear hb31
      have QP := Lib.hid hp
      clear hp QV
      obtain ⟨tw, htw⟩ : ∃ tw, decide (kk * (4225 + (x0 * y0 + x1 * y1)) ≤ h * (x0 * y1 - x1 * y0)) = tw := ⟨_, rfl⟩
      have HTW := Lib.hid htw
      clear htw
      cases t with
      | false =>
        go_wp2_with fail
        go_ret
        exact ⟨rfl, B.out⟩
      | true =>
        go_wp2_with fail
        refine (way_is q kk h x0 x1 y0 y1 tw _ hq9 HX HY (by have := HB.out; omega) (by have := HB.out; omega) HTW).mono ?_
        rintro e w32 ⟨rfl, hb32⟩
        replace QU := Lib.hid (prow_below QU.out hb32)
        replace ZO := Lib.hid (blk_call ZO.out hb32)
        replace QP := Lib.hid (prow_below QP.out hb32)
        replace B := Lib.hid (belT B.out hb32)
        clear hb32
        cases tw with
        | false =>
          go_wp2_with fail
          go_ret
          exact ⟨rfl, B.out⟩
        | true =>
          have hI : IsHull (ptsL (o1, o2) U V) u := HC.out.elim (fun h => absurd h.1 (by have := HT.out; simpa using this)) (fun h => h.2)
          have HI := Lib.hid hI
          have hu0 : 0 < u.length := by have := hI.1.1; omega
          have HBU : Hid (∀ i, i < u.length → (-200000 ≤ cx u i ∧ cx u i ≤ 200000) ∧ -200000 ≤ cy u i ∧ cy u i ≤ 200000) := Lib.hid (fun i hi => pts_bd5 (o := (o1, o2)) bo.out SU.out SV.out _ (HI.out.2.1 i hi))
          have HWW : Hid (kk * (4225 + (x0 * y0 + x1 * y1)) ≤ h * (x0 * y1 - x1 * y0)) := Lib.hid (of_decide_eq_true HTW.out)
          have qh := HB.out
          have n1 := prod_bd (A := 99) (B := 99) (a := h) (b := h) (by omega) (by omega)
          have n2 := prod_bd (A := 99) (B := 99) (a := kk) (b := kk) (by omega) (by omega)
          have n3 := Int.mul_le_mul (show kk ≤ h by omega) (show kk ≤ h by omega) (by omega) (by omega)
          have n4 := sq_nn kk
          have w1' : IntKind.i64.wrap (h * h) = h * h := wrap_k _ (by omega)
          have w2' : IntKind.i64.wrap (kk * kk) = kk * kk := wrap_k _ (by omega)
          have w3' : IntKind.i64.wrap (h * h + kk * kk) = h * h + kk * kk := wrap_k _ (by omega)
          have w4' : IntKind.i64.wrap (h * h - kk * kk) = h * h - kk * kk := wrap_k _ (by omega)
          have BD : Hid (0 ≤ h * h - kk * kk ∧ h * h - kk * kk ≤ 9801 ∧ 0 ≤ h * h + kk * kk ∧ h * h + kk * kk ≤ 19602) := Lib.hid (by omega)
          clear hI qh n1 n2 n3 n4
          go_wp2
          go_loopw [27] (fun i wr => ∃ j : Nat, j ≤ U.length ∧ i = .int .i64 j ∧ Below w32.heap.size w32 wr) (fun i _ => U.length - (intOf i).toNat)
          case atStart => exact ⟨0, Nat.zero_le _, rfl, Below.refl _ _⟩
          case round =>
            obtain ⟨j, hj, rfl, hBx⟩ := hrel
            have HBX := Lib.hid hBx
            clear hBx
            by_cases hju : j < U.length
            · have hji : (j : Int) < U.length := by omega
              obtain ⟨p, q2, rfl, d1, d2⟩ := prow_at (prow_below QU.out HBX.out) hju
              have hjl : j < l.length ∧ j < 12 := by have := LU.out; omega
              obtain ⟨U1, hU1⟩ : ∃ z, cx U j - o1 = z := ⟨_, rfl⟩
              obtain ⟨U2, hU2⟩ : ∃ z, cy U j - o2 = z := ⟨_, rfl⟩
              have bU := SU.out _ (gp_mem hju)
              change (-100000 ≤ cx U j ∧ cx U j ≤ 100000) ∧ -100000 ≤ cy U j ∧ cy U j ≤ 100000 at bU
              have bo' := bo.out
              have bu1 : -120000 ≤ U1 ∧ U1 ≤ 120000 := by omega
              have bu2 : -120000 ≤ U2 ∧ U2 ≤ 120000 := by omega
              have HIN : Hid (∀ i, i < u.length → 0 ≤ (cx u (nx u.length i) - cx u i) * (U2 * (h * h - kk * kk) + U1 * 2 * h * kk + (h * h + kk * kk) * (o2 - cy u i)) - (cy u (nx u.length i) - cy u i) * (U1 * (h * h - kk * kk) - U2 * 2 * h * kk + (h * h + kk * kk) * (o1 - cx u i))) := Lib.hid (by
                obtain ⟨T1, T2, T3, T4, T5⟩ := TF.out
                have := HB.out
                exact arc_in (o := (o1, o2)) (x := (x0, x1)) (y := (y0, y1)) (l := l) T1 T2 T3 T4 T5 (by omega) (by omega) HWW.out (by rw [HU.out, HV.out]; exact HI.out) hjl.1 hjl.2 (by rw [HU.out]; exact hU1.symm) (by rw [HU.out]; exact hU2.symm) rfl rfl)
              obtain ⟨bd1, bd2, bd3, bd4⟩ := BD.out
              have qh := HB.out
              have m1 := prod_bd (A := 120000) (B := 9801) bu1 (show -9801 ≤ h * h - kk * kk ∧ h * h - kk * kk ≤ 9801 by omega)
              have m2 := prod_bd (A := 120000) (B := 9801) bu2 (show -9801 ≤ h * h - kk * kk ∧ h * h - kk * kk ≤ 9801 by omega)
              have m3 := prod_bd (A := 240000) (B := 99) (a := U1 * 2) (b := h) (by omega) (by omega)
              have m4 := prod_bd (A := 240000) (B := 99) (a := U2 * 2) (b := h) (by omega) (by omega)
              have m5 := prod_bd (A := 23760000) (B := 99) (a := U1 * 2 * h) (b := kk) (by omega) (by omega)
              have m6 := prod_bd (A := 23760000) (B := 99) (a := U2 * 2 * h) (b := kk) (by omega) (by omega)
              have : IntKind.i64.wrap (U1) = U1 := by rw [IntKind.wrap_i64]; omega
              have : IntKind.i64.wrap (U2) = U2 := by rw [IntKind.wrap_i64]; omega
              have : IntKind.i64.wrap (U1 * (h * h - kk * kk)) = U1 * (h * h - kk * kk) := by rw [IntKind.wrap_i64]; omega
              have : IntKind.i64.wrap (U2 * (h * h - kk * kk)) = U2 * (h * h - kk * kk) := by rw [IntKind.wrap_i64]; omega
              have : IntKind.i64.wrap (U1 * 2) = U1 * 2 := by rw [IntKind.wrap_i64]; omega
              have : IntKind.i64.wrap (U2 * 2) = U2 * 2 := by rw [IntKind.wrap_i64]; omega
              have : IntKind.i64.wrap (U1 * 2 * h) = U1 * 2 * h := by rw [IntKind.wrap_i64]; omega
              have : IntKind.i64.wrap (U2 * 2 * h) = U2 * 2 * h := by rw [IntKind.wrap_i64]; omega
              have : IntKind.i64.wrap (U1 * 2 * h * kk) = U1 * 2 * h * kk := by rw [IntKind.wrap_i64]; omega
              have : IntKind.i64.wrap (U2 * 2 * h * kk) = U2 * 2 * h * kk := by rw [IntKind.wrap_i64]; omega
              have : IntKind.i64.wrap (U1 * (h * h - kk * kk) - U2 * 2 * h * kk) = U1 * (h * h - kk * kk) - U2 * 2 * h * kk := by rw [IntKind.wrap_i64]; omega
              have : IntKind.i64.wrap (U2 * (h * h - kk * kk) + U1 * 2 * h * kk) = U2 * (h * h - kk * kk) + U1 * 2 * h * kk := by rw [IntKind.wrap_i64]; omega
              have BW := Lib.hid (show (-10000000000 ≤ U1 * (h * h - kk * kk) - U2 * 2 * h * kk ∧ U1 * (h * h - kk * kk) - U2 * 2 * h * kk ≤ 10000000000) ∧ -10000000000 ≤ U2 * (h * h - kk * kk) + U1 * 2 * h * kk ∧ U2 * (h * h - kk * kk) + U1 * 2 * h * kk ≤ 10000000000 by omega)
              have X2 := blk_call ZO.out HBX.out
              have z0 := blk_cell X2 0 _ rfl
              have z1 := blk_cell X2 1 _ rfl
              have hz0' := HBX.out.size
              clear X2 m1 m2 m3 m4 m5 m6 bu1 bu2 bU bo' bd1 bd2 bd3 bd4 qh
              generalize cx U j = g1 at *
              generalize cy U j = g2 at *
              go_upto_region 25 with fail
              obtain ⟨sp, hsp⟩ : ∃ sp : ToldS, sp = [none, none, none, none, none, none, none, none, none, none, none, none, none, none, none, none, none, none, none, none, none, none, none, none, none, none, none, none, some (ptrS wr.heap.size), none, none, none, none, none, none, none, none, none, none, none, none, none, none, none, none, none, none, none, none, none, none, none, none, none, none, none, none, none, none, none, none, none, none, none, none, none, none, none, none, none, none, none, none, none, none, none, none, none, none, none, none, none, none, none, none, none, none, none, none, none, none, none, none, none, none, none, none, none, none, none, none, none, none, none, none, none, none, none, none, none, none, none, none, none, none, none, none, none, none, none, none, none, none, none, none, none, none, none, none, none, none, none, none, none, none, none, none, none, none, none, none, none, none, none, none, none, none, none, none, none, none, none, none, none, some (eqS (.slice (some ⟨p, q2, none⟩) U.length uc)), some (eqS (.int .i64 (j : Int))), some (eqS (.pointer (some ⟨p, q2 + j * 2, none⟩))), some (eqS (.pointer (some ⟨p, q2 + j * 2, none⟩))), some (eqS (.int .i64 g1)), some (eqS (.pointer (some ⟨zo, 0, none⟩))), some (eqS (.int .i64 o1)), some (eqS (.int .i64 U1)), some (eqS (.slice (some ⟨p, q2, none⟩) U.length uc)), some (eqS (.int .i64 (j : Int))), some (eqS (.pointer (some ⟨p, q2 + j * 2, none⟩))), some (eqS (.pointer (some ⟨p, q2 + j * 2 + 1, none⟩))), some (eqS (.int .i64 g2)), some (eqS (.pointer (some ⟨zo, 1, none⟩))), some (eqS (.int .i64 o2)), some (eqS (.int .i64 U2)), some (eqS (.agg #[.int .i64 U1, .int .i64 U2]))] := ⟨_, rfl⟩
              have s28 : sp.getD 28 none = some (ptrS wr.heap.size) := by rw [hsp]; rfl
              have s154 : sp.getD 154 none = some (eqS (.slice (some ⟨p, q2, none⟩) U.length uc)) := by rw [hsp]; rfl
              have s155 : sp.getD 155 none = some (eqS (.int .i64 (j : Int))) := by rw [hsp]; rfl
              have s156 : sp.getD 156 none = some (eqS (.pointer (some ⟨p, q2 + j * 2, none⟩))) := by rw [hsp]; rfl
              have s157 : sp.getD 157 none = some (eqS (.pointer (some ⟨p, q2 + j * 2, none⟩))) := by rw [hsp]; rfl
              have s158 : sp.getD 158 none = some (eqS (.int .i64 g1)) := by rw [hsp]; rfl
              have s159 : sp.getD 159 none = some (eqS (.pointer (some ⟨zo, 0, none⟩))) := by rw [hsp]; rfl
              have s160 : sp.getD 160 none = some (eqS (.int .i64 o1)) := by rw [hsp]; rfl
              have s161 : sp.getD 161 none = some (eqS (.int .i64 U1)) := by rw [hsp]; rfl
              have s162 : sp.getD 162 none = some (eqS (.slice (some ⟨p, q2, none⟩) U.length uc)) := by rw [hsp]; rfl
              have s163 : sp.getD 163 none = some (eqS (.int .i64 (j : Int))) := by rw [hsp]; rfl
              have s164 : sp.getD 164 none = some (eqS (.pointer (some ⟨p, q2 + j * 2, none⟩))) := by rw [hsp]; rfl
              have s165 : sp.getD 165 none = some (eqS (.pointer (some ⟨p, q2 + j * 2 + 1, none⟩))) := by rw [hsp]; rfl
              have s166 : sp.getD 166 none = some (eqS (.int .i64 g2)) := by rw [hsp]; rfl
              have s167 : sp.getD 167 none = some (eqS (.pointer (some ⟨zo, 1, none⟩))) := by rw [hsp]; rfl
              have s168 : sp.getD 168 none = some (eqS (.int .i64 o2)) := by rw [hsp]; rfl
              have s169 : sp.getD 169 none = some (eqS (.int .i64 U2)) := by rw [hsp]; rfl
              have s170 : sp.getD 170 none = some (eqS (.agg #[.int .i64 U1, .int .i64 U2])) := by rw [hsp]; rfl
              clear hsp
              refine (wpIn_wide (n := 0)).1 (region_headR (RtS sp) (rtS_keep sp) 18 rfl rfl rfl (by kernel_rfl) (by decide) (by kernel_rfl) (by kernel_rfl) (by kernel_rfl) ?_ ?_)
              · intro Q'; show ObsR _ _ _ _ _ _ _ _ (List.take _ _); simp only [List.take_succ_cons, List.take_zero]
                refine obsR_cons ?_ ?_
                · intro T wx K hB hF hD hK
                  have g16 : T[16]? = some (.slice (some ⟨p, q2, none⟩) U.length uc) := hF 16 (freeM_of (by kernel_rfl))
                  refine ob_yes (wanted_none rfl) ?_
                  clear hF hD
                  go_simp
                  exact hK _ _ (Below.refl _ _) (rt_eqS s154)
                refine obsR_cons ?_ ?_
                · intro T wx K hB hF hD hK
                  have g27 : T[27]? = some (.int .i64 (j : Int)) := hF 27 (freeM_of (by kernel_rfl))
                  refine ob_yes (wanted_none rfl) ?_
                  clear hF hD
                  go_simp
                  exact hK _ _ (Below.refl _ _) (rt_eqS s155)
                refine obsR_cons ?_ ?_
                · intro T wx K hB hF hD hK
                  have g154 := get_eqS (hD 0 154 (by simp [Region.binds]) (by kernel_rfl)) s154
                  have g155 := get_eqS (hD 1 155 (by simp [Region.binds]) (by kernel_rfl)) s155
                  refine ob_yes (wanted_none rfl) ?_
                  clear hF hD
                  go_simp
                  exact hK _ _ (Below.refl _ _) (rt_eqS s156)
                refine obsR_cons ?_ ?_
                · intro T wx K hB hF hD hK
                  have g156 := get_eqS (hD 2 156 (by simp [Region.binds]) (by kernel_rfl)) s156
                  refine ob_yes (wanted_none rfl) ?_
                  clear hF hD
                  go_simp
                  exact hK _ _ (Below.refl _ _) (rt_eqS s157)
                refine obsR_cons ?_ ?_
                · intro T wx K hB hF hD hK
                  have g157 := get_eqS (hD 3 157 (by simp [Region.binds]) (by kernel_rfl)) s157
                  refine ob_yes (wanted_none rfl) ?_
                  clear hF hD
                  have e1 := cell_call d1 hB
                  go_simp
                  exact hK _ _ (Below.refl _ _) (rt_eqS s158)
                refine obsR_cons ?_ ?_
                · intro T wx K hB hF hD hK
                  have g12 : T[12]? = some (.pointer (some ⟨zo, 0, none⟩)) := hF 12 (freeM_of (by kernel_rfl))
                  refine ob_yes (wanted_none rfl) ?_
                  clear hF hD
                  go_simp
                  exact hK _ _ (Below.refl _ _) (rt_eqS s159)
                refine obsR_cons ?_ ?_
                · intro T wx K hB hF hD hK
                  have g159 := get_eqS (hD 5 159 (by simp [Region.binds]) (by kernel_rfl)) s159
                  refine ob_yes (wanted_none rfl) ?_
                  clear hF hD
                  have e1 := cell_call z0 hB
                  go_simp
                  exact hK _ _ (Below.refl _ _) (rt_eqS s160)
                refine obsR_cons ?_ ?_
                · intro T wx K hB hF hD hK
                  have g158 := get_eqS (hD 4 158 (by simp [Region.binds]) (by kernel_rfl)) s158
                  have g160 := get_eqS (hD 6 160 (by simp [Region.binds]) (by kernel_rfl)) s160
                  refine ob_yes (wanted_none rfl) ?_
                  clear hF hD
                  go_simp
                  exact hK _ _ (Below.refl _ _) (rt_eqS s161)
                refine obsR_cons ?_ ?_
                · intro T wx K hB hF hD hK
                  have g16 : T[16]? = some (.slice (some ⟨p, q2, none⟩) U.length uc) := hF 16 (freeM_of (by kernel_rfl))
                  refine ob_yes (wanted_none rfl) ?_
                  clear hF hD
                  go_simp
                  exact hK _ _ (Below.refl _ _) (rt_eqS s162)
                refine obsR_cons ?_ ?_
                · intro T wx K hB hF hD hK
                  have g27 : T[27]? = some (.int .i64 (j : Int)) := hF 27 (freeM_of (by kernel_rfl))
                  refine ob_yes (wanted_none rfl) ?_
                  clear hF hD
                  go_simp
                  exact hK _ _ (Below.refl _ _) (rt_eqS s163)
                refine obsR_cons ?_ ?_
                · intro T wx K hB hF hD hK
                  have g162 := get_eqS (hD 8 162 (by simp [Region.binds]) (by kernel_rfl)) s162
                  have g163 := get_eqS (hD 9 163 (by simp [Region.binds]) (by kernel_rfl)) s163
                  refine ob_yes (wanted_none rfl) ?_
                  clear hF hD
                  go_simp
                  exact hK _ _ (Below.refl _ _) (rt_eqS s164)
                refine obsR_cons ?_ ?_
                · intro T wx K hB hF hD hK
                  have g164 := get_eqS (hD 10 164 (by simp [Region.binds]) (by kernel_rfl)) s164
                  refine ob_yes (wanted_none rfl) ?_
                  clear hF hD
                  go_simp
                  exact hK _ _ (Below.refl _ _) (rt_eqS s165)
                refine obsR_cons ?_ ?_
                · intro T wx K hB hF hD hK
                  have g165 := get_eqS (hD 11 165 (by simp [Region.binds]) (by kernel_rfl)) s165
                  refine ob_yes (wanted_none rfl) ?_
                  clear hF hD
                  have e1 := cell_call d2 hB
                  go_simp
                  exact hK _ _ (Below.refl _ _) (rt_eqS s166)
                refine obsR_cons ?_ ?_
                · intro T wx K hB hF hD hK
                  have g12 : T[12]? = some (.pointer (some ⟨zo, 0, none⟩)) := hF 12 (freeM_of (by kernel_rfl))
                  refine ob_yes (wanted_none rfl) ?_
                  clear hF hD
                  go_simp
                  exact hK _ _ (Below.refl _ _) (rt_eqS s167)
                refine obsR_cons ?_ ?_
                · intro T wx K hB hF hD hK
                  have g167 := get_eqS (hD 13 167 (by simp [Region.binds]) (by kernel_rfl)) s167
                  refine ob_yes (wanted_none rfl) ?_
                  clear hF hD
                  have e1 := cell_call z1 hB
                  go_simp
                  exact hK _ _ (Below.refl _ _) (rt_eqS s168)
                refine obsR_cons ?_ ?_
                · intro T wx K hB hF hD hK
                  have g166 := get_eqS (hD 12 166 (by simp [Region.binds]) (by kernel_rfl)) s166
                  have g168 := get_eqS (hD 14 168 (by simp [Region.binds]) (by kernel_rfl)) s168
                  refine ob_yes (wanted_none rfl) ?_
                  clear hF hD
                  go_simp
                  exact hK _ _ (Below.refl _ _) (rt_eqS s169)
                refine obsR_cons ?_ ?_
                · intro T wx K hB hF hD hK
                  have g161 := get_eqS (hD 7 161 (by simp [Region.binds]) (by kernel_rfl)) s161
                  have g169 := get_eqS (hD 15 169 (by simp [Region.binds]) (by kernel_rfl)) s169
                  refine ob_yes (wanted_none rfl) ?_
                  clear hF hD
                  go_simp
                  refine (at_is _ _ _).mono ?_; rintro e w9 ⟨rfl, hb⟩
                  exact hK _ _ hb (rt_eqS s170)
                refine obsR_cons ?_ ?_
                · intro T wx K hB hF hD hK
                  refine ob_yes (wanted_none rfl) ?_
                  clear hF hD
                  have hsz := hB.size
                  go_simp
                  exact hK _ _ (belA (Below.refl _ _) _) (rt_S s28 ⟨_, rfl, by omega, blk_new _ _ _ rfl⟩)
                exact obsR_nil
              · intro T w8 hb hF hs hD
                have g154 := get_eqS (hD 0 154 (by decide) (by kernel_rfl)) s154
                have g155 := get_eqS (hD 1 155 (by decide) (by kernel_rfl)) s155
                have g156 := get_eqS (hD 2 156 (by decide) (by kernel_rfl)) s156
                have g157 := get_eqS (hD 3 157 (by decide) (by kernel_rfl)) s157
                have g158 := get_eqS (hD 4 158 (by decide) (by kernel_rfl)) s158
                have g159 := get_eqS (hD 5 159 (by decide) (by kernel_rfl)) s159
                have g160 := get_eqS (hD 6 160 (by decide) (by kernel_rfl)) s160
                have g161 := get_eqS (hD 7 161 (by decide) (by kernel_rfl)) s161
                have g162 := get_eqS (hD 8 162 (by decide) (by kernel_rfl)) s162
                have g163 := get_eqS (hD 9 163 (by decide) (by kernel_rfl)) s163
                have g164 := get_eqS (hD 10 164 (by decide) (by kernel_rfl)) s164
                have g165 := get_eqS (hD 11 165 (by decide) (by kernel_rfl)) s165
                have g166 := get_eqS (hD 12 166 (by decide) (by kernel_rfl)) s166
                have g167 := get_eqS (hD 13 167 (by decide) (by kernel_rfl)) s167
                have g168 := get_eqS (hD 14 168 (by decide) (by kernel_rfl)) s168
                have g169 := get_eqS (hD 15 169 (by decide) (by kernel_rfl)) s169
                have g170 := get_eqS (hD 16 170 (by decide) (by kernel_rfl)) s170
                obtain ⟨v28, g28, p28⟩ := getS (hD 17 28 (by decide) (by kernel_rfl)) s28
                have hT := conc [(154, .slice (some ⟨p, q2, none⟩) U.length uc), (155, .int .i64 (j : Int)), (156, .pointer (some ⟨p, q2 + j * 2, none⟩)), (157, .pointer (some ⟨p, q2 + j * 2, none⟩)), (158, .int .i64 g1), (159, .pointer (some ⟨zo, 0, none⟩)), (160, .int .i64 o1), (161, .int .i64 U1), (162, .slice (some ⟨p, q2, none⟩) U.length uc), (163, .int .i64 (j : Int)), (164, .pointer (some ⟨p, q2 + j * 2, none⟩)), (165, .pointer (some ⟨p, q2 + j * 2 + 1, none⟩)), (166, .int .i64 g2), (167, .pointer (some ⟨zo, 1, none⟩)), (168, .int .i64 o2), (169, .int .i64 U2), (170, .agg #[.int .i64 U1, .int .i64 U2]), (28, v28)] hs hF (by simp only [List.forall_mem_cons]; exact ⟨g154, g155, g156, g157, g158, g159, g160, g161, g162, g163, g164, g165, g166, g167, g168, g169, g170, g28, fun p hp => absurd hp List.not_mem_nil⟩) (by kernel_rfl)
                simp only [List.foldl, List.setIfInBounds_toArray, List.set_cons_succ, List.set_cons_zero] at hT
                subst hT
                clear hF hD hs g154 g155 g156 g157 g158 g159 g160 g161 g162 g163 g164 g165 g166 g167 g168 g169 g170 g28 s28 s154 s155 s156 s157 s158 s159 s160 s161 s162 s163 s164 s165 s166 s167 s168 s169 s170
                show wpOpsIn _ _ _ _ _ [18] _ _
                obtain ⟨zu, rfl, hzu, hbx⟩ := p28
                have f0 := blk_cell hbx 0 _ rfl
                have f1 := blk_cell hbx 1 _ rfl
                have f2 := blk_fz hbx 0
                have f3 := blk_fz hbx 1
                have ZU := Lib.hid (blk_set (j := 1) (blk_set (j := 0) hbx (.int .i64 U1)) (.int .i64 U2))
                have HB9 := Lib.hid (belS (p := ⟨zu, 1, none⟩) (belS (p := ⟨zu, 0, none⟩) hb (show wr.heap.size ≤ zu from hzu) (.int .i64 U1)) (show wr.heap.size ≤ zu from hzu) (.int .i64 U2))
                clear hb hbx d1 d2 z0 z1 hzu
                simp only [wpOpsIn]
                go_simp
                clear f0 f1 f2 f3
                obtain ⟨w9, hw9⟩ : ∃ W, (w8.setCell ⟨zu, 0, none⟩ (.int .i64 U1)).setCell ⟨zu, 1, none⟩ (.int .i64 U2) = W := ⟨_, rfl⟩
                rw [hw9] at ZU HB9
                rw [hw9]
                clear hw9
                replace ZU := Lib.hid (show w9.heap[zu]? = some (.cells #[.int .i64 U1, .int .i64 U2] 35 (0, 0)) from ZU.out)
                replace HBX := Lib.hid (HBX.out.trans (HB9.out.mono (by omega)))
                clear HB9 hz0'
                have y0' := blk_cell ZU.out 0 _ rfl
                have y1' := blk_cell ZU.out 1 _ rfl
                go_wp2_with fail
                refine (at_is (U1 * (h * h - kk * kk) - U2 * 2 * h * kk) (U2 * (h * h - kk * kk) + U1 * 2 * h * kk) _).mono ?_
                rintro e w10 ⟨rfl, hb10⟩
                replace HBX := Lib.hid (belT HBX.out hb10)
                clear y0' y1' ZU hb10
                obtain ⟨wx, hwx⟩ : ∃ z, U1 * (h * h - kk * kk) - U2 * 2 * h * kk = z := ⟨_, rfl⟩
                obtain ⟨wy, hwy⟩ : ∃ z, U2 * (h * h - kk * kk) + U1 * 2 * h * kk = z := ⟨_, rfl⟩
                rw [hwx, hwy] at BW HIN
                rw [hwx, hwy]
                clear hwx hwy
                have X2 := blk_alloc (blk_call ZO.out HBX.out) (.cells #[.int .i64 wx, .int .i64 wy] 35)
                have z0 := blk_cell X2 0 _ rfl
                have z1 := blk_cell X2 1 _ rfl
                have QP2 := Lib.hid (prow_alloc (prow_below QP.out HBX.out) (.cells #[.int .i64 wx, .int .i64 wy] 35))
                have HB10 := Lib.hid (belA HBX.out (.cells #[.int .i64 wx, .int .i64 wy] 35))
                clear X2 HBX
                go_wp2_with fail
                refine (inside_is po _ pc u o1 o2 wx wy (h * h + kk * kk) _ rfl hu0 (by omega) QP2.out HBU.out (by have := bo.out; omega) (by have := bo.out; omega) BW.out.1 BW.out.2 (by have := BD.out; omega) HIN).mono ?_
                rintro e w11 ⟨rfl, hb11⟩
                have HB11 := Lib.hid (belT HB10.out hb11)
                clear z0 z1 hb11
                go_wp2
                go_roundw
                case rel => exact ⟨j + 1, by omega, by go_num, HB11.out⟩
                case measure => simp [intOf]; omega
            · have hji : ¬ (j : Int) < U.length := by omega
              have HB9 := Lib.hid (belT B.out HBX.out)
              go_wp2
              go_ret
              exact ⟨rfl, HB9.out⟩

set_option maxRecDepth 100000 in
theorem lifted (os : Os) (started : os.Started) (H : Type) (enc : TypeId × Value → H) :
    ReturnsInHanded {} Try.checked os 6 .any (Rows.sweepArcSpec.pre6 enc Try.prog Try.f6 Rows.sweepArcRow.domain false) (Rows.sweepArcSpec.post enc Try.prog Try.f6 false true false false) := by
  refine returnsInHanded_of_change (C := Try.checked) HFr.own started (by kernel_rfl) Try.func6
    (ChangeSpec.witness6 (enc := enc) (C := Try.checked) false ⟨#[], #[.agg #[.int .i64 0, .int .i64 0], .slice none 0 0, .int .u8 0, .int .u8 0, .int .u8 0], []⟩ 8 (by kernel_rfl) (by kernel_rfl) (by kernel_rfl) (by kernel_rfl)) ?_
  intro W base args ds gs before hval0 hW hcnd _
  have hval : ∀ (j : Nat) t v, Try.f6.params[j]? = some t → args[j]? = some v → Value.okWide Try.prog W .any base t v := hval0
  have hW' := hW
  obtain ⟨p, q, hA0, hV, rfl, hfz, hnd⟩ := hW
  have hA : DataW.TrodAll enc Try.prog W 0 (fun _ => true) true Try.f6.params.toList args.toList ds p := hA0
  rw [Try.params6] at hA hval
  obtain ⟨v0, vs0, d0, ds0, p0, q0, hargs, rfl, rfl, h0, r0⟩ := trodAll_cons hA
  obtain ⟨v1, vs1, d1, ds1, p1, q1, rfl, rfl, rfl, h1, r1⟩ := trodAll_cons r0
  obtain ⟨v2, vs2, d2, ds2, p2, q2, rfl, rfl, rfl, h2, r2⟩ := trodAll_cons r1
  obtain ⟨v3, vs3, d3, ds3, p3, q3, rfl, rfl, rfl, h3, r3⟩ := trodAll_cons r2
  obtain ⟨v4, vs4, d4, ds4, p4, q4, rfl, rfl, rfl, h4, r4⟩ := trodAll_cons r3
  obtain ⟨rfl, rfl, rfl⟩ := trodAll_nil r4
  obtain rfl : args = #[v0, v1, v2, v3, v4] := by cases args; simp_all
  obtain ⟨rfl, rfl⟩ := trodVars_none hV
  have k0 := h0
  have lt0 : ∀ x ∈ p0, x.block < W.heap.size := by obtain ⟨m, hm⟩ := k0; exact DataW.trod_lt m _ _ _ hm
  obtain ⟨x0, y0, rfl⟩ := HFr.open_pt (hval 0 35 v0 rfl rfl) h0
  have k1 := h1
  have lt1 : ∀ x ∈ p1, x.block < W.heap.size := by obtain ⟨m, hm⟩ := k1; exact DataW.trod_lt m _ _ _ hm
  obtain ⟨a1, cap1, l1, rfl, n1, w1⟩ := HFr.open_pts (hval 1 22 v1 rfl rfl) h1
  obtain ⟨a2, rfl, rfl, rfl, w2⟩ := open_int Try.underlying5 (hval 2 5 v2 rfl rfl) h2
  obtain ⟨a3, rfl, rfl, rfl, w3⟩ := open_int Try.underlying5 (hval 3 5 v3 rfl rfl) h3
  obtain ⟨a4, rfl, rfl, rfl, w4⟩ := open_int Try.underlying5 (hval 4 5 v4 rfl rfl) h4
  clear hA0 hval0
  refine (walk x0 y0 a1 cap1 l1 n1 w1 a2 w2 a3 w3 a4 w4 W rfl).mono fun e W' ⟨he, bel⟩ => ?_
  subst he
  exact ⟨_, rfl, _, _, _, [], _, [], hW', trodAll_mk1 (shut_bool Try.underlying4 _), (trodAll_cons_mk (Below.trod HFr.laidOut (by kernel_rfl) (of_decide_eq_true (by kernel_rfl)) k0 bel lt0) (trodAll_cons_mk (Below.trod HFr.laidOut (by kernel_rfl) (of_decide_eq_true (by kernel_rfl)) k1 bel lt1) (trodAll_cons_mk (shut_int Try.underlying5 w2) (trodAll_cons_mk (shut_int Try.underlying5 w3) (trodAll_cons_mk (shut_int Try.underlying5 w4) trodAll_mk0))))), rfl, bel.frame _, fun h => by cases h⟩

/-- THE STATEMENT. -/
theorem holds : Rows.SweepArcSaid :=
  OpenClaim.holds_of_wide 6 Try.f6 rfl rfl rfl rfl rfl rfl rfl ⟨rfl, rfl, rfl, rfl, rfl⟩ rfl rfl rfl rfl rfl (by kernel_rfl) Try.func6 (by kernel_rfl)
    (of_decide_eq_true (by kernel_rfl)) (by unfold Func.isWrapper; first | (rw [if_pos (by decide +kernel)]; kernel_rfl) | (rw [if_neg (by decide +kernel)]; exact ⟨rfl, rfl⟩))
    (fun os started H enc _ => lifted os started H enc)
#print axioms holds
end Go.Proofs.Ytnpadblfpaiofaa.sweepArc
