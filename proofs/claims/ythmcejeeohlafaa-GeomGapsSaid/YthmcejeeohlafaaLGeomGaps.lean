/- Proved: the gap between two boxes is symmetric, never negative and at most the greatest coordinate distance of two points, and a copy shifted to the right by more than the width lies as far away as the shift minus the width (the law GeomGaps returns true).
Conditions: none on the arguments: for all two slices of points. -/
import Derived.Test.YthmcejeeohlafaaGeoL
import Derived.Test.YthmcejeeohlafaaGeoQo
import Derived.Test.YthmcejeeohlafaaGeoGs
import Derived.Test.YthmcejeeohlafaaGeoFr
namespace Go.Proofs.Ythmcejeeohlafaa.geomGaps
open Go.ChangeShapes Go.WideShapes Go.ChangeAt Go.RowKit
set_option linter.unusedVariables false
theorem fitL_inr (l : List (Int × Int)) : AllR (fitL l) := fun i hi => by
  have : ((fitL l).getD i (0, 0)) = fitP ((l.take 30)[i]'(by simpa [fitL] using hi)) := by
    rw [List.getD_eq_getElem?_getD, List.getElem?_eq_getElem hi]
    simp [fitL]
  rw [this]
  exact ⟨(fit_y _).inr, (fit_y _).inr⟩
theorem apts_below {w w' : World} {ao : Option Addr} {n : Nat} {l : List (Int × Int)} (h : APts w ao n l) (hb : Below w.heap.size w w') : APts w' ao n l :=
  ⟨h.1, fun i hi => by
    obtain ⟨a, e, c1, c2⟩ := h.2 i hi
    exact ⟨a, e, (hb.cell (World.block_lt_of_cell? w _ c1)).trans c1, (hb.cell (World.block_lt_of_cell? w _ c2)).trans c2⟩⟩
theorem fits_is (ao : Option Addr) (len cap : Nat) (l u : List (Int × Int)) (w : World) (hA : APts w ao len l) (hu : Hid (fitL l = u)) :
    Calls Try.prog 6 #[.slice ao len cap] w fun e w' => (∃ g c, e = .returned (.slice (some ⟨g, 0, none⟩) u.length c) ∧ w'.ownsRow w.heap.size 27 2 (.slice (some ⟨g, 0, none⟩) u.length c) u.length (flat u)) ∧ Below w.heap.size w w' := by
  have := fits_own ao len cap l w hA; unfold Fown at this; rw [hu.out] at this; exact this
theorem prow_g {w : World} {base g c : Nat} {e : TypeId} {l : List (Int × Int)} (h : w.ownsRow base e 2 (.slice (some ⟨g, 0, none⟩) l.length c) l.length (flat l)) : PRow w (some ⟨g, 0, none⟩) l := fun i hi => by
  refine ⟨g, 0, rfl, ?_, ?_⟩
  · rw [Nat.zero_add, h.cellAt (i * 2) (by omega)]; exact (flat_get l i hi).1
  · rw [Nat.zero_add, h.cellAt (i * 2 + 1) (by omega)]; exact (flat_get l i hi).2
theorem le_of_own {a b n k : Nat} {c : Nat} (h : a ≤ b) (hk : (Value.slice (some ⟨b, 0, none⟩) n c).ownBlock = some k) : a ≤ k := by
  have : b = k := by simpa [Value.ownBlock] using hk
  omega
theorem flat_one (u : List (Int × Int)) : ∀ x ∈ flat u, x.oneCell' = true := by
  intro x hx
  unfold flat at hx
  obtain ⟨p, _, hp⟩ := List.mem_flatMap.1 hx
  simp at hp
  rcases hp with rfl | rfl <;> rfl

theorem own_ne {g b c n : Nat} {j : Nat} (h : g ≠ b) : (Value.slice (some ⟨g, 0, none⟩) n c).ownBlock ≠ some (Addr.mk b j none).block := by
  intro e
  exact h (by simpa [Value.ownBlock] using e)

theorem bd_is (ao bo : Option Addr) (ca cb : Nat) (u v : List (Int × Int)) (g : Int) (n m : Nat) (w : World) (hn : u.length = n) (hm : v.length = m) (na : u.length ≤ 1000000) (nb : v.length ≤ 1000000) (pa : PRow w ao u) (pb : PRow w bo v) (ra : AllR u) (rb : AllR v) (h : Hid (boxD u v = g)) :
    Calls Try.prog 7 #[.slice ao n ca, .slice bo m cb] w fun e w' => e = .returned (.int .i64 g) ∧ Below w.heap.size w w' := by
  subst hn hm
  have := boxdist_any ao bo ca cb u v w na nb pa pb ra rb; rw [h.out] at this; exact this
theorem bbox_at (ao : Option Addr) (cap : Nat) (l : List (Int × Int)) (n : Nat) (w : World) (hl : l.length ≤ 1000000) (hn : l.length = n) (hr : PRow w ao l) (a b c d : Int) (hL : Hid (foldP lowP l = (a, b))) (hU : Hid (foldP uppP l = (c, d))) :
    Calls Try.prog 8 #[.slice ao n cap] w fun e w' => e = .returned (.tuple #[.agg #[.int .i64 a, .int .i64 b], .agg #[.int .i64 c, .int .i64 d]]) ∧ Below w.heap.size w w' := by
  subst hn
  exact bbox_is ao cap l w hl hr a b c d hL hU
theorem fit_yy (l : List (Int × Int)) (i : Nat) (hi : i < (fitL l).length) : InY ((fitL l).getD i (0, 0)).1 ∧ InY ((fitL l).getD i (0, 0)).2 := by
  have : ((fitL l).getD i (0, 0)) = fitP ((l.take 30)[i]'(by simpa [fitL] using hi)) := by
    rw [List.getD_eq_getElem?_getD, List.getElem?_eq_getElem hi]
    simp [fitL]
  rw [this]
  exact ⟨fit_y _, fit_y _⟩
theorem own_far {g b c n : Nat} (h : g ≠ b) : (Value.slice (some ⟨g, 0, none⟩) n c).ownBlock ≠ some b := by
  intro e
  exact h (by simpa [Value.ownBlock] using e)
theorem own_far' {g b c n c' n' : Nat} (h : g ≠ b) : (Value.slice (some ⟨g, 0, none⟩) n c).ownBlock ≠ (Value.slice (some ⟨b, 0, none⟩) n' c').ownBlock := by
  intro e
  exact h (by simpa [Value.ownBlock] using e)
theorem hat_of {g b c n H : Nat} (h : (Value.slice (some ⟨g, 0, none⟩) n c).ownBlock = some b ∨ b = H) : b = g ∨ b = H := by
  rcases h with h | h
  · left; have : g = b := by simpa [Value.ownBlock] using h
    omega
  · exact .inr h
theorem row_news {w : World} {b : Nat} {x y : Int} (h : PRow w (some ⟨b, 0, none⟩) [(x, y)]) : ∀ j u, ([.int .i64 x, .int .i64 y] : List Value)[j]? = some u → w.cell? ((⟨b, 0, none⟩ : Addr).add j) = some u := fun j u hu => by
  obtain ⟨b', o', e, c1, c2⟩ := h 0 (by simp)
  cases e
  match j, hu with
  | 0, hu => simp at hu; subst hu; simpa [Addr.add] using c1
  | 1, hu => simp at hu; subst hu; simpa [Addr.add] using c2
theorem map_allr (u : List (Int × Int)) (t : Int × Int → Int × Int) (h : ∀ i, i < u.length → InR (t (u.getD i (0, 0))).1 ∧ InR (t (u.getD i (0, 0))).2) : AllR (u.map t) := fun i hi => by
  rw [List.length_map] at hi
  have e : (u.map t).getD i (0, 0) = t (u.getD i (0, 0)) := by
    rw [List.getD_eq_getElem?_getD, List.getD_eq_getElem?_getD, List.getElem?_map, List.getElem?_eq_getElem hi]; rfl
  rw [e]
  exact h i hi

set_option maxRecDepth 100000 in
set_option maxHeartbeats 32000000 in
theorem walk_all (ao : Option Addr) (lena capa : Nat) (l : List (Int × Int)) (bo : Option Addr) (lenb capb : Nat) (m : List (Int × Int)) (w : World) (hl : APts w ao lena l) (hm : APts w bo lenb m) (u v : List (Int × Int)) (HU : Hid (fitL l = u)) (HV : Hid (fitL m = v)) (nu : u.length ≤ 30) (nv : v.length ≤ 30) (ru : AllR u) (rv : AllR v) (yu : Hid (∀ i, i < u.length → InY (u.getD i (0, 0)).1 ∧ InY (u.getD i (0, 0)).2)) (yv : Hid (∀ i, i < v.length → InY (v.getD i (0, 0)).1 ∧ InY (v.getD i (0, 0)).2)) :
    Calls Try.prog 4 #[.slice ao lena capa, .slice bo lenb capb] w fun e w' => e = .returned (.bool true) ∧ Below w.heap.size w w' := by
  have PL := Lib.hid hl
  have PM := Lib.hid hm
  obtain ⟨i0, hi, hz0, hz1', hz2⟩ := info_parts infoP
  have hB : Below w.heap.size w w := Below.refl _ _
  have nu' : u.length ≤ 1000000 := by omega
  have nv' : v.length ≤ 1000000 := by omega
  obtain ⟨g, hg⟩ : ∃ g, boxD u v = g := ⟨_, rfl⟩
  have HG := Lib.hid hg
  have HGS : Hid (boxD v u = g) := Lib.hid (by rw [box_swap]; exact hg)
  have HLE : Hid (∀ i k, i < u.length → k < v.length → g ≤ mxI (mxI (mxI ((u.getD i (0, 0)).1 - (v.getD k (0, 0)).1) (-((u.getD i (0, 0)).1 - (v.getD k (0, 0)).1))) ((u.getD i (0, 0)).2 - (v.getD k (0, 0)).2)) (-((u.getD i (0, 0)).2 - (v.getD k (0, 0)).2))) := Lib.hid (fun i k hi hk => by rw [← hg]; exact box_le u v hi hk)
  have g0 : 0 ≤ g := by rw [← hg]; exact box_nn u v
  clear hl hm hg
  go_enter Try.func4, Try.ntmps4
  go_wp2_with fail
  refine (head_any _).mono ?_; rintro e w1 ⟨rfl, hb⟩
  replace hB := belT hB hb
  clear hb
  go_wp2_with fail
  refine (fits_is ao lena capa l u _ (apts_below PL.out hB) HU).mono ?_; rintro e w2 ⟨⟨g1, k1, rfl, o1⟩, hb⟩
  replace hB := belT hB hb
  have s1 := hb.size
  clear hb
  go_wp2_with fail
  refine (fits_is bo lenb capb m v _ (apts_below PM.out hB) HV).mono ?_; rintro e w3 ⟨⟨g2, k2, rfl, o2⟩, hb⟩
  replace o1 := own_below o1 hb
  replace hB := belT hB hb
  have s2 := hb.size
  clear hb PL PM HU HV
  go_wp2_with fail
  refine (bd_is (some ⟨g1, 0, none⟩) (some ⟨g2, 0, none⟩) k1 k2 u v g _ _ _ rfl rfl nu' nv' (prow_g o1) (prow_g o2) ru rv HG).mono ?_; rintro e w4 ⟨rfl, hb⟩
  replace o1 := own_below o1 hb
  replace o2 := own_below o2 hb
  replace hB := belT hB hb
  clear hb HG
  go_wp2_with fail
  go_loopw [9] (fun i wr => ∃ k : Nat, k ≤ u.length ∧ i = .int .i64 k ∧ wr.ownsRow w1.heap.size 27 2 (.slice (some ⟨g1, 0, none⟩) u.length k1) u.length (flat u) ∧ wr.ownsRow w2.heap.size 27 2 (.slice (some ⟨g2, 0, none⟩) v.length k2) v.length (flat v) ∧ Below w.heap.size w wr) (fun i _ => u.length - (intOf i).toNat)
  case atStart => exact ⟨0, Nat.zero_le _, rfl, o1, o2, hB⟩
  case round =>
    clear o1 o2 hB
    obtain ⟨i, hi', rfl, o1, o2, hB⟩ := hrel
    by_cases hlt : i < u.length
    · have hii : (i : Int) < u.length := by omega
      go_wp2_with fail
      go_loopw [10] (fun kv wr => ∃ k : Nat, k ≤ v.length ∧ kv = .int .i64 k ∧ wr.ownsRow w1.heap.size 27 2 (.slice (some ⟨g1, 0, none⟩) u.length k1) u.length (flat u) ∧ wr.ownsRow w2.heap.size 27 2 (.slice (some ⟨g2, 0, none⟩) v.length k2) v.length (flat v) ∧ Below w.heap.size w wr) (fun kv _ => v.length - (intOf kv).toNat)
      case atStart => exact ⟨0, Nat.zero_le _, rfl, o1, o2, hB⟩
      case round =>
        clear o1 o2 hB
        obtain ⟨k, hk, rfl, o1, o2, hB⟩ := hrel
        by_cases hkl : k < v.length
        · have hkk : (k : Int) < v.length := by omega
          have HL := Lib.hid (HLE.out i k hlt hkl)
          obtain ⟨y1, y2⟩ := yu.out i hlt
          obtain ⟨y3, y4⟩ := yv.out k hkl
          obtain ⟨e1, e2, he⟩ : ∃ e1 e2, u.getD i (0, 0) = (e1, e2) := ⟨_, _, rfl⟩
          obtain ⟨f1, f2, hf⟩ : ∃ e1 e2, v.getD k (0, 0) = (e1, e2) := ⟨_, _, rfl⟩
          have HE : Hid (∀ W : World, W.ownsRow w1.heap.size 27 2 (.slice (some ⟨g1, 0, none⟩) u.length k1) u.length (flat u) → W.cell? ⟨g1, i * 2, none⟩ = some (.int .i64 e1) ∧ W.cell? ⟨g1, i * 2 + 1, none⟩ = some (.int .i64 e2)) := Lib.hid (fun W h => by
            obtain ⟨_, _, ho, x1, x2⟩ := prow_g h i hlt
            obtain ⟨rfl, rfl⟩ : g1 = _ ∧ 0 = _ := by simpa using ho
            rw [he] at x1 x2
            simpa using And.intro x1 x2)
          have HF : Hid (∀ W : World, W.ownsRow w2.heap.size 27 2 (.slice (some ⟨g2, 0, none⟩) v.length k2) v.length (flat v) → W.cell? ⟨g2, k * 2, none⟩ = some (.int .i64 f1) ∧ W.cell? ⟨g2, k * 2 + 1, none⟩ = some (.int .i64 f2)) := Lib.hid (fun W h => by
            obtain ⟨_, _, ho, x1, x2⟩ := prow_g h k hkl
            obtain ⟨rfl, rfl⟩ : g2 = _ ∧ 0 = _ := by simpa using ho
            rw [hf] at x1 x2
            simpa using And.intro x1 x2)
          rw [he] at y1 y2 HL
          rw [hf] at y3 y4 HL
          obtain ⟨X, hX⟩ : ∃ X, e1 - f1 = X := ⟨_, rfl⟩
          obtain ⟨Y, hY⟩ : ∃ Y, e2 - f2 = Y := ⟨_, rfl⟩
          have b1 : -900000000 ≤ X ∧ X ≤ 900000000 := by unfold InY at y1 y3; omega
          have b2 : -900000000 ≤ Y ∧ Y ≤ 900000000 := by unfold InY at y2 y4; omega
          obtain ⟨b11, b12⟩ := b1
          obtain ⟨b21, b22⟩ := b2
          have HL2 : Hid (g ≤ mxI (mxI (mxI X (-X)) Y) (-Y)) := Lib.hid (by have := HL.out; simp only [hX, hY] at this; exact this)
          have q4 := run_max4 X (-X) Y (-Y)
          obtain ⟨M, hM⟩ : ∃ M, mxI (mxI (mxI X (-X)) Y) (-Y) = M := ⟨_, rfl⟩
          rw [hM] at q4 HL2
          have hgm : decide (M < g) = false := decide_eq_false (by have := HL2.out; omega)
          have hw1 : IntKind.i64.wrap (e1 - f1) = X := by rw [hX, IntKind.wrap_i64]; omega
          have hw2 : IntKind.i64.wrap (e2 - f2) = Y := by rw [hY, IntKind.wrap_i64]; omega
          clear hX hY hM HL HL2 he hf y1 y2 y3 y4
          obtain ⟨x0, x1⟩ := HE.out _ o1
          obtain ⟨z0, z1⟩ := HF.out _ o2
          go_upto_region 11 with fail
          go_region
          clear x0 x1 z0 z1
          replace o1 := own_below o1 (Below.refl _ _).drew
          replace o2 := own_below o2 (Below.refl _ _).drew
          replace hB := hB.drew
          generalize hwA : wr.drew = wA at *
          clear hwA
          obtain ⟨x0, x1⟩ := HE.out _ o1
          obtain ⟨z0, z1⟩ := HF.out _ o2
          go_upto_region 12 with fail
          go_region
          clear x0 x1 z0 z1
          replace o1 := own_below o1 (Below.refl _ _).drew
          replace o2 := own_below o2 (Below.refl _ _).drew
          replace hB := hB.drew
          generalize hwA : wA.drew = wB at *
          clear hwA HE HF
          go_wp2_with fail
          go_roundw
          case rel => first | exact ⟨k + 1, by omega, by go_num, o1, o2, hB⟩ | exact ⟨k + 1, by omega, by go_num⟩ | exact ⟨k + 1, by omega, by omega⟩
          case measure => simp [intOf]; omega
        · have hkn : k = v.length := by omega
          go_wp2_with fail
          go_roundw
          case rel => first | exact ⟨i + 1, by omega, by go_num, o1, o2, hB⟩ | exact ⟨i + 1, by omega, by go_num⟩ | exact ⟨i + 1, by omega, by omega⟩
          case measure => simp [intOf]; omega
    · have hin : i = u.length := by omega
      clear hi' hlt HLE
      subst hin
      go_wp2_with fail
      obtain ⟨cs, hcs⟩ : ∃ cs, u.map q4 = cs := ⟨_, rfl⟩
      obtain ⟨ds, hds⟩ : ∃ ds, cs.map sh9 = ds := ⟨_, rfl⟩
      have hcl : cs.length = u.length := by rw [← hcs]; simp
      have hdl : ds.length = u.length := by rw [← hds]; simpa using hcl
      have HCS := Lib.hid hcs
      have HDS := Lib.hid hds
      have HCL := Lib.hid hcl
      have HDL := Lib.hid hdl
      have rcs : AllR cs := by
        rw [← hcs]
        exact map_allr u q4 (fun i hi => by
          have := yu.out i hi
          have a := tdiv4_bd this.1
          have b := tdiv4_bd this.2
          unfold q4 InR
          omega)
      have rds : AllR ds := by
        rw [← hds, ← hcs, List.map_map]
        exact map_allr u (sh9 ∘ q4) (fun i hi => by
          have := yu.out i hi
          have a := tdiv4_bd this.1
          have b := tdiv4_bd this.2
          show InR ((u.getD i (0, 0)).1.tdiv 4 + 219700009) ∧ InR ((u.getD i (0, 0)).2.tdiv 4)
          unfold InR
          omega)
      clear hcs hds hcl hdl
      obtain ⟨B, hBB⟩ : ∃ B, B = wr.heap.size := ⟨_, rfl⟩
      have lg1 : g1 < B := by rw [hBB]; exact (o1.lt g1 rfl).2
      have lg2 : g2 < B := by rw [hBB]; exact (o2.lt g2 rfl).2
      have hsB : w.heap.size ≤ B := by rw [hBB]; exact hB.size
      have oc : ((wr.alloc (.cells #[] 27)).alloc (.cells #[] 27)).ownsRow B 27 2 (.slice (some ⟨wr.heap.size, 0, none⟩) 0 0) 0 ([]) := by rw [hBB]; exact (World.ownsRow_lit wr #[] 0 (Nat.le_refl _) (by decide) rfl).alloc _
      have od : ((wr.alloc (.cells #[] 27)).alloc (.cells #[] 27)).ownsRow B 27 2 (.slice (some ⟨(wr.heap.size + 1), 0, none⟩) 0 0) 0 ([]) := by
        have := World.ownsRow_lit (e := 27) (size := 2) (base := B) (wr.alloc (.cells #[] 27)) #[] 0 (by rw [hBB]; simp) (by decide) rfl
        simpa using this
      replace o1 := (o1.alloc (.cells #[] 27)).alloc (.cells #[] 27)
      replace o2 := (o2.alloc (.cells #[] 27)).alloc (.cells #[] 27)
      replace hB := belA (belA hB (.cells #[] 27)) (.cells #[] 27)
      go_loopw [13, 14, 15] (fun cv dv i wx => ∃ k gc gd kc kd : Nat, k ≤ u.length ∧ i = .int .i64 k ∧ cv = .slice (some ⟨gc, 0, none⟩) k kc ∧ dv = .slice (some ⟨gd, 0, none⟩) k kd ∧ gc ≠ gd ∧ wx.ownsRow B 27 2 (.slice (some ⟨gc, 0, none⟩) k kc) k (flat (cs.take k)) ∧ wx.ownsRow B 27 2 (.slice (some ⟨gd, 0, none⟩) k kd) k (flat (ds.take k)) ∧ wx.ownsRow w1.heap.size 27 2 (.slice (some ⟨g1, 0, none⟩) u.length k1) u.length (flat u) ∧ wx.ownsRow w2.heap.size 27 2 (.slice (some ⟨g2, 0, none⟩) v.length k2) v.length (flat v) ∧ Below w.heap.size w wx) (fun _ _ i _ => u.length - (intOf i).toNat)
      case atStart => exact ⟨0, wr.heap.size, wr.heap.size + 1, 0, 0, Nat.zero_le _, rfl, rfl, rfl, by omega, oc, od, o1, o2, hB⟩
      case round =>
        clear o1 o2 hB oc od hBB
        obtain ⟨k, gc, gd, kc, kd, hk, rfl, rfl, rfl, hne, oc, od, o1, o2, hB⟩ := hrel
        by_cases hlt : k < u.length
        · have hki : (k : Int) < u.length := by omega
          obtain ⟨e1, e2, he⟩ : ∃ e1 e2, u.getD k (0, 0) = (e1, e2) := ⟨_, _, rfl⟩
          obtain ⟨y1, y2⟩ := yu.out k hlt
          rw [he] at y1 y2
          obtain ⟨b1, b2⟩ := tdiv4_bd y1
          obtain ⟨b3, b4⟩ := tdiv4_bd y2
          obtain ⟨c1, hc1⟩ : ∃ c, e1.tdiv 4 = c := ⟨_, rfl⟩
          obtain ⟨c2, hc2⟩ : ∃ c, e2.tdiv 4 = c := ⟨_, rfl⟩
          rw [hc1] at b1 b2
          rw [hc2] at b3 b4
          obtain ⟨s1, hs1⟩ : ∃ s, c1 + 219700000 = s := ⟨_, rfl⟩
          obtain ⟨s2, hs2⟩ : ∃ s, s1 + 9 = s := ⟨_, rfl⟩
          have hw1 : IntKind.i64.wrap c1 = c1 := by rw [IntKind.wrap_i64]; omega
          have hw2 : IntKind.i64.wrap c2 = c2 := by rw [IntKind.wrap_i64]; omega
          have hw3 : IntKind.i64.wrap s1 = s1 := by rw [IntKind.wrap_i64]; omega
          have hw4 : IntKind.i64.wrap s2 = s2 := by rw [IntKind.wrap_i64]; omega
          have Hc : Hid (flat (cs.take (k + 1)) = flat (cs.take k) ++ [.int .i64 c1, .int .i64 c2]) := Lib.hid (by
            rw [← HCS.out, flat_take4 u q4 k hlt, he]; unfold q4; rw [← hc1, ← hc2])
          have Hd : Hid (flat (ds.take (k + 1)) = flat (ds.take k) ++ [.int .i64 s2, .int .i64 c2]) := Lib.hid (by
            have hkc : k < cs.length := by rw [HCL.out]; exact hlt
            have hck : cs.getD k (0, 0) = (c1, c2) := by
              rw [← HCS.out, List.getD_eq_getElem?_getD, List.getElem?_map, List.getElem?_eq_getElem hlt]
              have : u[k] = (e1, e2) := by rw [← he, List.getD_eq_getElem?_getD, List.getElem?_eq_getElem hlt]; rfl
              rw [this]
              show (e1.tdiv 4, e2.tdiv 4) = _
              rw [hc1, hc2]
            rw [← HDS.out, flat_take4 cs sh9 k hkc, hck]
            unfold sh9
            rw [show (c1, c2).1 + 219700009 = s2 by show c1 + 219700009 = s2; omega])
          have HE : Hid (∀ W : World, W.ownsRow w1.heap.size 27 2 (.slice (some ⟨g1, 0, none⟩) u.length k1) u.length (flat u) → W.cell? ⟨g1, k * 2, none⟩ = some (.int .i64 e1) ∧ W.cell? ⟨g1, k * 2 + 1, none⟩ = some (.int .i64 e2)) := Lib.hid (fun W h => by
            obtain ⟨_, _, ho, x1, x2⟩ := prow_g h k hlt
            obtain ⟨rfl, rfl⟩ : g1 = _ ∧ 0 = _ := by simpa using ho
            rw [he] at x1 x2
            simpa using And.intro x1 x2)
          clear he y1 y2
          obtain ⟨x0, x1⟩ := HE.out _ o1
          go_upto_region 20 with fail
          obtain ⟨sp, hsp⟩ : ∃ sp : Told, sp = [none, none, none, none, none, none, none, none, none, none, none, none, none, none, none, none, none, none, none, none, none, none, none, none, none, none, none, none, none, none, none, none, none, none, none, none, none, none, none, none, none, none, none, none, none, none, none, none, none, none, none, none, none, none, none, none, none, none, none, none, none, none, none, none, none, none, none, none, none, none, none, none, none, none, none, none, none, some (.inl (.slice (some ⟨gc, 0, none⟩) k kc)), some (.inl (.slice (some ⟨g1, 0, none⟩) u.length k1)), some (.inl (.int .i64 (k : Int))), some (.inl (.pointer (some ⟨g1, k * 2, none⟩))), some (.inl (.pointer (some ⟨g1, k * 2, none⟩))), some (.inl (.int .i64 e1)), some (.inl (.int .i64 c1)), some (.inl (.slice (some ⟨g1, 0, none⟩) u.length k1)), some (.inl (.int .i64 (k : Int))), some (.inl (.pointer (some ⟨g1, k * 2, none⟩))), some (.inl (.pointer (some ⟨g1, k * 2 + 1, none⟩))), some (.inl (.int .i64 e2)), some (.inl (.int .i64 c2)), some (.inl (.agg #[.int .i64 c1, .int .i64 c2])), some (.inr [(c1, c2)])] := ⟨_, rfl⟩
          have s77 : sp.getD 77 none = some (.inl (.slice (some ⟨gc, 0, none⟩) k kc)) := by rw [hsp]; rfl
          have s78 : sp.getD 78 none = some (.inl (.slice (some ⟨g1, 0, none⟩) u.length k1)) := by rw [hsp]; rfl
          have s79 : sp.getD 79 none = some (.inl (.int .i64 (k : Int))) := by rw [hsp]; rfl
          have s80 : sp.getD 80 none = some (.inl (.pointer (some ⟨g1, k * 2, none⟩))) := by rw [hsp]; rfl
          have s81 : sp.getD 81 none = some (.inl (.pointer (some ⟨g1, k * 2, none⟩))) := by rw [hsp]; rfl
          have s82 : sp.getD 82 none = some (.inl (.int .i64 e1)) := by rw [hsp]; rfl
          have s83 : sp.getD 83 none = some (.inl (.int .i64 c1)) := by rw [hsp]; rfl
          have s84 : sp.getD 84 none = some (.inl (.slice (some ⟨g1, 0, none⟩) u.length k1)) := by rw [hsp]; rfl
          have s85 : sp.getD 85 none = some (.inl (.int .i64 (k : Int))) := by rw [hsp]; rfl
          have s86 : sp.getD 86 none = some (.inl (.pointer (some ⟨g1, k * 2, none⟩))) := by rw [hsp]; rfl
          have s87 : sp.getD 87 none = some (.inl (.pointer (some ⟨g1, k * 2 + 1, none⟩))) := by rw [hsp]; rfl
          have s88 : sp.getD 88 none = some (.inl (.int .i64 e2)) := by rw [hsp]; rfl
          have s89 : sp.getD 89 none = some (.inl (.int .i64 c2)) := by rw [hsp]; rfl
          have s90 : sp.getD 90 none = some (.inl (.agg #[.int .i64 c1, .int .i64 c2])) := by rw [hsp]; rfl
          have s91 : sp.getD 91 none = some (.inr [(c1, c2)]) := by rw [hsp]; rfl
          clear hsp
          refine (wpIn_wide (n := 0)).1 (region_headM sp 15 rfl rfl rfl (by kernel_rfl) (by decide) (by kernel_rfl) (by kernel_rfl) (by kernel_rfl) ?_ ?_)
          · intro Q'; show ObsM _ _ _ _ _ _ _ _ (List.take _ _); simp only [List.take_succ_cons, List.take_zero]
            refine obsM_cons ?_ ?_
            · intro T wx K hB hF hD hK
              have g13 : T[13]? = some (.slice (some ⟨gc, 0, none⟩) k kc) := hF 13 (freeM_of (by kernel_rfl))
              refine ob_yes (wanted_none rfl) ?_
              clear hF hD
              go_simp
              exact hK _ _ (Below.refl _ _) (rt_eq s77)
            refine obsM_cons ?_ ?_
            · intro T wx K hB hF hD hK
              have g6 : T[6]? = some (.slice (some ⟨g1, 0, none⟩) u.length k1) := hF 6 (freeM_of (by kernel_rfl))
              refine ob_yes (wanted_none rfl) ?_
              clear hF hD
              go_simp
              exact hK _ _ (Below.refl _ _) (rt_eq s78)
            refine obsM_cons ?_ ?_
            · intro T wx K hB hF hD hK
              have g15 : T[15]? = some (.int .i64 (k : Int)) := hF 15 (freeM_of (by kernel_rfl))
              refine ob_yes (wanted_none rfl) ?_
              clear hF hD
              go_simp
              exact hK _ _ (Below.refl _ _) (rt_eq s79)
            refine obsM_cons ?_ ?_
            · intro T wx K hB hF hD hK
              have g78 := get_eq (hD 1 78 (by simp [Region.binds]) (by kernel_rfl)) s78
              have g79 := get_eq (hD 2 79 (by simp [Region.binds]) (by kernel_rfl)) s79
              refine ob_yes (wanted_none rfl) ?_
              clear hF hD
              go_simp
              exact hK _ _ (Below.refl _ _) (rt_eq s80)
            refine obsM_cons ?_ ?_
            · intro T wx K hB hF hD hK
              have g80 := get_eq (hD 3 80 (by simp [Region.binds]) (by kernel_rfl)) s80
              refine ob_yes (wanted_none rfl) ?_
              clear hF hD
              go_simp
              exact hK _ _ (Below.refl _ _) (rt_eq s81)
            refine obsM_cons ?_ ?_
            · intro T wx K hB hF hD hK
              have g81 := get_eq (hD 4 81 (by simp [Region.binds]) (by kernel_rfl)) s81
              refine ob_yes (wanted_none rfl) ?_
              clear hF hD
              have c0 := cell_call x0 hB
              go_simp
              exact hK _ _ (Below.refl _ _) (rt_eq s82)
            refine obsM_cons ?_ ?_
            · intro T wx K hB hF hD hK
              have g82 := get_eq (hD 5 82 (by simp [Region.binds]) (by kernel_rfl)) s82
              refine ob_yes (wanted_none rfl) ?_
              clear hF hD
              go_simp
              exact hK _ _ (Below.refl _ _) (rt_eq s83)
            refine obsM_cons ?_ ?_
            · intro T wx K hB hF hD hK
              have g6 : T[6]? = some (.slice (some ⟨g1, 0, none⟩) u.length k1) := hF 6 (freeM_of (by kernel_rfl))
              refine ob_yes (wanted_none rfl) ?_
              clear hF hD
              go_simp
              exact hK _ _ (Below.refl _ _) (rt_eq s84)
            refine obsM_cons ?_ ?_
            · intro T wx K hB hF hD hK
              have g15 : T[15]? = some (.int .i64 (k : Int)) := hF 15 (freeM_of (by kernel_rfl))
              refine ob_yes (wanted_none rfl) ?_
              clear hF hD
              go_simp
              exact hK _ _ (Below.refl _ _) (rt_eq s85)
            refine obsM_cons ?_ ?_
            · intro T wx K hB hF hD hK
              have g84 := get_eq (hD 7 84 (by simp [Region.binds]) (by kernel_rfl)) s84
              have g85 := get_eq (hD 8 85 (by simp [Region.binds]) (by kernel_rfl)) s85
              refine ob_yes (wanted_none rfl) ?_
              clear hF hD
              go_simp
              exact hK _ _ (Below.refl _ _) (rt_eq s86)
            refine obsM_cons ?_ ?_
            · intro T wx K hB hF hD hK
              have g86 := get_eq (hD 9 86 (by simp [Region.binds]) (by kernel_rfl)) s86
              refine ob_yes (wanted_none rfl) ?_
              clear hF hD
              go_simp
              exact hK _ _ (Below.refl _ _) (rt_eq s87)
            refine obsM_cons ?_ ?_
            · intro T wx K hB hF hD hK
              have g87 := get_eq (hD 10 87 (by simp [Region.binds]) (by kernel_rfl)) s87
              refine ob_yes (wanted_none rfl) ?_
              clear hF hD
              have c0 := cell_call x1 hB
              go_simp
              exact hK _ _ (Below.refl _ _) (rt_eq s88)
            refine obsM_cons ?_ ?_
            · intro T wx K hB hF hD hK
              have g88 := get_eq (hD 11 88 (by simp [Region.binds]) (by kernel_rfl)) s88
              refine ob_yes (wanted_none rfl) ?_
              clear hF hD
              go_simp
              exact hK _ _ (Below.refl _ _) (rt_eq s89)
            refine obsM_cons ?_ ?_
            · intro T wx K hB hF hD hK
              have g83 := get_eq (hD 6 83 (by simp [Region.binds]) (by kernel_rfl)) s83
              have g89 := get_eq (hD 12 89 (by simp [Region.binds]) (by kernel_rfl)) s89
              refine ob_yes (wanted_none rfl) ?_
              clear hF hD
              go_simp
              refine (at_any c1 c2 _).mono ?_; rintro e w9 ⟨rfl, hb⟩
              exact hK _ _ hb (rt_eq s90)
            refine obsM_cons ?_ ?_
            · intro T wx K hB hF hD hK
              have g90 := get_eq (hD 13 90 (by simp [Region.binds]) (by kernel_rfl)) s90
              refine ob_yes (wanted_none rfl) ?_
              clear hF hD
              go_simp
              exact hK _ _ (belA (Below.refl _ _) _) (rt_row s91 rfl (prow_one (cbx _ _ _ _ 0 _ rfl rfl) (cbx _ _ _ _ 1 _ rfl rfl)))
            exact obsM_nil
          · intro T w8 hb hF hs hD
            have g77 := get_eq (hD 0 77 (by decide) (by kernel_rfl)) s77
            have g78 := get_eq (hD 1 78 (by decide) (by kernel_rfl)) s78
            have g79 := get_eq (hD 2 79 (by decide) (by kernel_rfl)) s79
            have g80 := get_eq (hD 3 80 (by decide) (by kernel_rfl)) s80
            have g81 := get_eq (hD 4 81 (by decide) (by kernel_rfl)) s81
            have g82 := get_eq (hD 5 82 (by decide) (by kernel_rfl)) s82
            have g83 := get_eq (hD 6 83 (by decide) (by kernel_rfl)) s83
            have g84 := get_eq (hD 7 84 (by decide) (by kernel_rfl)) s84
            have g85 := get_eq (hD 8 85 (by decide) (by kernel_rfl)) s85
            have g86 := get_eq (hD 9 86 (by decide) (by kernel_rfl)) s86
            have g87 := get_eq (hD 10 87 (by decide) (by kernel_rfl)) s87
            have g88 := get_eq (hD 11 88 (by decide) (by kernel_rfl)) s88
            have g89 := get_eq (hD 12 89 (by decide) (by kernel_rfl)) s89
            have g90 := get_eq (hD 13 90 (by decide) (by kernel_rfl)) s90
            obtain ⟨bn, cn, g91, pn⟩ := get_row (hD 14 91 (by decide) (by kernel_rfl)) s91
            have hT := conc [(77, .slice (some ⟨gc, 0, none⟩) k kc), (78, .slice (some ⟨g1, 0, none⟩) u.length k1), (79, .int .i64 (k : Int)), (80, .pointer (some ⟨g1, k * 2, none⟩)), (81, .pointer (some ⟨g1, k * 2, none⟩)), (82, .int .i64 e1), (83, .int .i64 c1), (84, .slice (some ⟨g1, 0, none⟩) u.length k1), (85, .int .i64 (k : Int)), (86, .pointer (some ⟨g1, k * 2, none⟩)), (87, .pointer (some ⟨g1, k * 2 + 1, none⟩)), (88, .int .i64 e2), (89, .int .i64 c2), (90, .agg #[.int .i64 c1, .int .i64 c2]), (91, .slice (some ⟨bn, 0, none⟩) 1 cn)] hs hF (by simp only [List.forall_mem_cons]; exact ⟨g77, g78, g79, g80, g81, g82, g83, g84, g85, g86, g87, g88, g89, g90, g91, fun p hp => absurd hp List.not_mem_nil⟩) (by kernel_rfl)
            simp only [List.foldl, List.setIfInBounds_toArray, List.set_cons_succ, List.set_cons_zero] at hT
            subst hT
            clear hF hD hs g77 g78 g79 g80 g81 g82 g83 g84 g85 g86 g87 g88 g89 g90 g91 s77 s78 s79 s80 s81 s82 s83 s84 s85 s86 s87 s88 s89 s90 s91
            replace hB := belT hB hb
            replace o1 := own_below o1 hb
            replace o2 := own_below o2 hb
            replace oc := own_below oc hb
            replace od := own_below od hb
            have hs8 := hb.size
            clear hb x0 x1
            have lc := (oc.lt gc rfl)
            have ld := (od.lt gd rfl)
            have l1 := (o1.lt g1 rfl)
            have l2 := (o2.lt g2 rfl)
            show wpOpsIn _ _ _ _ _ [15, 16] _ _
            refine tail_append rfl rfl rfl rfl rfl (.tmp 77) (.tmp 91) 22 rfl B 27 i0 (.agg #[.int .i64 0, .int .i64 0]) 2 16 Try.underlying22 hi hz0 hz1' hz2 rfl (by decide) _ _ _ rfl oc ⟨bn, 0, none⟩ 1 cn [.int .i64 c1, .int .i64 c2] rfl rfl (row_news pn) (by intro u hu; simp at hu; rcases hu with rfl | rfl <;> rfl) (by decide) (by unfold maxLen; omega) (by omega) (by omega) ?_
            intro gx kx w9 ox hgrow hat hltx
            have hat := hat_of hat
            rw [← Hc.out] at ox
            replace o1 := o1.kept hgrow (.inr (own_far' (by omega)))
            replace o2 := o2.kept hgrow (.inr (own_far' (by omega)))
            replace od := od.kept hgrow (.inr (own_far' (by omega)))
            replace hB := hB.grown hgrow (by omega) (fun q hq => by have := (oc.lt q hq).1; omega)
            have hs9 := hgrow.size
            have lx := (ox.lt gx rfl)
            have hne' : gx ≠ gd := by omega
            clear hgrow hat oc lc pn
            simp only [wpOpsIn]
            go_simp
            obtain ⟨x0, x1⟩ := HE.out _ o1
            go_upto_region 21 with fail
            obtain ⟨sp, hsp⟩ : ∃ sp : Told, sp = [none, none, none, none, none, none, none, none, none, none, none, none, none, none, none, none, none, none, none, none, none, none, none, none, none, none, none, none, none, none, none, none, none, none, none, none, none, none, none, none, none, none, none, none, none, none, none, none, none, none, none, none, none, none, none, none, none, none, none, none, none, none, none, none, none, none, none, none, none, none, none, none, none, none, none, none, none, none, none, none, none, none, none, none, none, none, none, none, none, none, none, none, none, some (.inl (.slice (some ⟨gd, 0, none⟩) k kd)), some (.inl (.slice (some ⟨g1, 0, none⟩) u.length k1)), some (.inl (.int .i64 (k : Int))), some (.inl (.pointer (some ⟨g1, k * 2, none⟩))), some (.inl (.pointer (some ⟨g1, k * 2, none⟩))), some (.inl (.int .i64 e1)), some (.inl (.int .i64 c1)), some (.inl (.int .i64 s1)), some (.inl (.int .i64 s2)), some (.inl (.slice (some ⟨g1, 0, none⟩) u.length k1)), some (.inl (.int .i64 (k : Int))), some (.inl (.pointer (some ⟨g1, k * 2, none⟩))), some (.inl (.pointer (some ⟨g1, k * 2 + 1, none⟩))), some (.inl (.int .i64 e2)), some (.inl (.int .i64 c2)), some (.inl (.agg #[.int .i64 s2, .int .i64 c2])), some (.inr [(s2, c2)])] := ⟨_, rfl⟩
            have s93 : sp.getD 93 none = some (.inl (.slice (some ⟨gd, 0, none⟩) k kd)) := by rw [hsp]; rfl
            have s94 : sp.getD 94 none = some (.inl (.slice (some ⟨g1, 0, none⟩) u.length k1)) := by rw [hsp]; rfl
            have s95 : sp.getD 95 none = some (.inl (.int .i64 (k : Int))) := by rw [hsp]; rfl
            have s96 : sp.getD 96 none = some (.inl (.pointer (some ⟨g1, k * 2, none⟩))) := by rw [hsp]; rfl
            have s97 : sp.getD 97 none = some (.inl (.pointer (some ⟨g1, k * 2, none⟩))) := by rw [hsp]; rfl
            have s98 : sp.getD 98 none = some (.inl (.int .i64 e1)) := by rw [hsp]; rfl
            have s99 : sp.getD 99 none = some (.inl (.int .i64 c1)) := by rw [hsp]; rfl
            have s100 : sp.getD 100 none = some (.inl (.int .i64 s1)) := by rw [hsp]; rfl
            have s101 : sp.getD 101 none = some (.inl (.int .i64 s2)) := by rw [hsp]; rfl
            have s102 : sp.getD 102 none = some (.inl (.slice (some ⟨g1, 0, none⟩) u.length k1)) := by rw [hsp]; rfl
            have s103 : sp.getD 103 none = some (.inl (.int .i64 (k : Int))) := by rw [hsp]; rfl
            have s104 : sp.getD 104 none = some (.inl (.pointer (some ⟨g1, k * 2, none⟩))) := by rw [hsp]; rfl
            have s105 : sp.getD 105 none = some (.inl (.pointer (some ⟨g1, k * 2 + 1, none⟩))) := by rw [hsp]; rfl
            have s106 : sp.getD 106 none = some (.inl (.int .i64 e2)) := by rw [hsp]; rfl
            have s107 : sp.getD 107 none = some (.inl (.int .i64 c2)) := by rw [hsp]; rfl
            have s108 : sp.getD 108 none = some (.inl (.agg #[.int .i64 s2, .int .i64 c2])) := by rw [hsp]; rfl
            have s109 : sp.getD 109 none = some (.inr [(s2, c2)]) := by rw [hsp]; rfl
            clear hsp
            refine (wpIn_wide (n := 0)).1 (region_headM sp 17 rfl rfl rfl (by kernel_rfl) (by decide) (by kernel_rfl) (by kernel_rfl) (by kernel_rfl) ?_ ?_)
            · intro Q'; show ObsM _ _ _ _ _ _ _ _ (List.take _ _); simp only [List.take_succ_cons, List.take_zero]
              refine obsM_cons ?_ ?_
              · intro T wx K hB hF hD hK
                have g14 : T[14]? = some (.slice (some ⟨gd, 0, none⟩) k kd) := hF 14 (freeM_of (by kernel_rfl))
                refine ob_yes (wanted_none rfl) ?_
                clear hF hD
                go_simp
                exact hK _ _ (Below.refl _ _) (rt_eq s93)
              refine obsM_cons ?_ ?_
              · intro T wx K hB hF hD hK
                have g6 : T[6]? = some (.slice (some ⟨g1, 0, none⟩) u.length k1) := hF 6 (freeM_of (by kernel_rfl))
                refine ob_yes (wanted_none rfl) ?_
                clear hF hD
                go_simp
                exact hK _ _ (Below.refl _ _) (rt_eq s94)
              refine obsM_cons ?_ ?_
              · intro T wx K hB hF hD hK
                have g15 : T[15]? = some (.int .i64 (k : Int)) := hF 15 (freeM_of (by kernel_rfl))
                refine ob_yes (wanted_none rfl) ?_
                clear hF hD
                go_simp
                exact hK _ _ (Below.refl _ _) (rt_eq s95)
              refine obsM_cons ?_ ?_
              · intro T wx K hB hF hD hK
                have g94 := get_eq (hD 1 94 (by simp [Region.binds]) (by kernel_rfl)) s94
                have g95 := get_eq (hD 2 95 (by simp [Region.binds]) (by kernel_rfl)) s95
                refine ob_yes (wanted_none rfl) ?_
                clear hF hD
                go_simp
                exact hK _ _ (Below.refl _ _) (rt_eq s96)
              refine obsM_cons ?_ ?_
              · intro T wx K hB hF hD hK
                have g96 := get_eq (hD 3 96 (by simp [Region.binds]) (by kernel_rfl)) s96
                refine ob_yes (wanted_none rfl) ?_
                clear hF hD
                go_simp
                exact hK _ _ (Below.refl _ _) (rt_eq s97)
              refine obsM_cons ?_ ?_
              · intro T wx K hB hF hD hK
                have g97 := get_eq (hD 4 97 (by simp [Region.binds]) (by kernel_rfl)) s97
                refine ob_yes (wanted_none rfl) ?_
                clear hF hD
                have c0 := cell_call x0 hB
                go_simp
                exact hK _ _ (Below.refl _ _) (rt_eq s98)
              refine obsM_cons ?_ ?_
              · intro T wx K hB hF hD hK
                have g98 := get_eq (hD 5 98 (by simp [Region.binds]) (by kernel_rfl)) s98
                refine ob_yes (wanted_none rfl) ?_
                clear hF hD
                go_simp
                exact hK _ _ (Below.refl _ _) (rt_eq s99)
              refine obsM_cons ?_ ?_
              · intro T wx K hB hF hD hK
                have g99 := get_eq (hD 6 99 (by simp [Region.binds]) (by kernel_rfl)) s99
                refine ob_yes (wanted_none rfl) ?_
                clear hF hD
                go_simp
                exact hK _ _ (Below.refl _ _) (rt_eq s100)
              refine obsM_cons ?_ ?_
              · intro T wx K hB hF hD hK
                have g100 := get_eq (hD 7 100 (by simp [Region.binds]) (by kernel_rfl)) s100
                refine ob_yes (wanted_none rfl) ?_
                clear hF hD
                go_simp
                exact hK _ _ (Below.refl _ _) (rt_eq s101)
              refine obsM_cons ?_ ?_
              · intro T wx K hB hF hD hK
                have g6 : T[6]? = some (.slice (some ⟨g1, 0, none⟩) u.length k1) := hF 6 (freeM_of (by kernel_rfl))
                refine ob_yes (wanted_none rfl) ?_
                clear hF hD
                go_simp
                exact hK _ _ (Below.refl _ _) (rt_eq s102)
              refine obsM_cons ?_ ?_
              · intro T wx K hB hF hD hK
                have g15 : T[15]? = some (.int .i64 (k : Int)) := hF 15 (freeM_of (by kernel_rfl))
                refine ob_yes (wanted_none rfl) ?_
                clear hF hD
                go_simp
                exact hK _ _ (Below.refl _ _) (rt_eq s103)
              refine obsM_cons ?_ ?_
              · intro T wx K hB hF hD hK
                have g102 := get_eq (hD 9 102 (by simp [Region.binds]) (by kernel_rfl)) s102
                have g103 := get_eq (hD 10 103 (by simp [Region.binds]) (by kernel_rfl)) s103
                refine ob_yes (wanted_none rfl) ?_
                clear hF hD
                go_simp
                exact hK _ _ (Below.refl _ _) (rt_eq s104)
              refine obsM_cons ?_ ?_
              · intro T wx K hB hF hD hK
                have g104 := get_eq (hD 11 104 (by simp [Region.binds]) (by kernel_rfl)) s104
                refine ob_yes (wanted_none rfl) ?_
                clear hF hD
                go_simp
                exact hK _ _ (Below.refl _ _) (rt_eq s105)
              refine obsM_cons ?_ ?_
              · intro T wx K hB hF hD hK
                have g105 := get_eq (hD 12 105 (by simp [Region.binds]) (by kernel_rfl)) s105
                refine ob_yes (wanted_none rfl) ?_
                clear hF hD
                have c0 := cell_call x1 hB
                go_simp
                exact hK _ _ (Below.refl _ _) (rt_eq s106)
              refine obsM_cons ?_ ?_
              · intro T wx K hB hF hD hK
                have g106 := get_eq (hD 13 106 (by simp [Region.binds]) (by kernel_rfl)) s106
                refine ob_yes (wanted_none rfl) ?_
                clear hF hD
                go_simp
                exact hK _ _ (Below.refl _ _) (rt_eq s107)
              refine obsM_cons ?_ ?_
              · intro T wx K hB hF hD hK
                have g101 := get_eq (hD 8 101 (by simp [Region.binds]) (by kernel_rfl)) s101
                have g107 := get_eq (hD 14 107 (by simp [Region.binds]) (by kernel_rfl)) s107
                refine ob_yes (wanted_none rfl) ?_
                clear hF hD
                go_simp
                refine (at_any s2 c2 _).mono ?_; rintro e w10 ⟨rfl, hb⟩
                exact hK _ _ hb (rt_eq s108)
              refine obsM_cons ?_ ?_
              · intro T wx K hB hF hD hK
                have g108 := get_eq (hD 15 108 (by simp [Region.binds]) (by kernel_rfl)) s108
                refine ob_yes (wanted_none rfl) ?_
                clear hF hD
                go_simp
                exact hK _ _ (belA (Below.refl _ _) _) (rt_row s109 rfl (prow_one (cbx _ _ _ _ 0 _ rfl rfl) (cbx _ _ _ _ 1 _ rfl rfl)))
              exact obsM_nil
            · intro T w18 hb hF hs hD
              have g93 := get_eq (hD 0 93 (by decide) (by kernel_rfl)) s93
              have g94 := get_eq (hD 1 94 (by decide) (by kernel_rfl)) s94
              have g95 := get_eq (hD 2 95 (by decide) (by kernel_rfl)) s95
              have g96 := get_eq (hD 3 96 (by decide) (by kernel_rfl)) s96
              have g97 := get_eq (hD 4 97 (by decide) (by kernel_rfl)) s97
              have g98 := get_eq (hD 5 98 (by decide) (by kernel_rfl)) s98
              have g99 := get_eq (hD 6 99 (by decide) (by kernel_rfl)) s99
              have g100 := get_eq (hD 7 100 (by decide) (by kernel_rfl)) s100
              have g101 := get_eq (hD 8 101 (by decide) (by kernel_rfl)) s101
              have g102 := get_eq (hD 9 102 (by decide) (by kernel_rfl)) s102
              have g103 := get_eq (hD 10 103 (by decide) (by kernel_rfl)) s103
              have g104 := get_eq (hD 11 104 (by decide) (by kernel_rfl)) s104
              have g105 := get_eq (hD 12 105 (by decide) (by kernel_rfl)) s105
              have g106 := get_eq (hD 13 106 (by decide) (by kernel_rfl)) s106
              have g107 := get_eq (hD 14 107 (by decide) (by kernel_rfl)) s107
              have g108 := get_eq (hD 15 108 (by decide) (by kernel_rfl)) s108
              obtain ⟨bn, cn, g109, pn⟩ := get_row (hD 16 109 (by decide) (by kernel_rfl)) s109
              have hT := conc [(93, .slice (some ⟨gd, 0, none⟩) k kd), (94, .slice (some ⟨g1, 0, none⟩) u.length k1), (95, .int .i64 (k : Int)), (96, .pointer (some ⟨g1, k * 2, none⟩)), (97, .pointer (some ⟨g1, k * 2, none⟩)), (98, .int .i64 e1), (99, .int .i64 c1), (100, .int .i64 s1), (101, .int .i64 s2), (102, .slice (some ⟨g1, 0, none⟩) u.length k1), (103, .int .i64 (k : Int)), (104, .pointer (some ⟨g1, k * 2, none⟩)), (105, .pointer (some ⟨g1, k * 2 + 1, none⟩)), (106, .int .i64 e2), (107, .int .i64 c2), (108, .agg #[.int .i64 s2, .int .i64 c2]), (109, .slice (some ⟨bn, 0, none⟩) 1 cn)] hs hF (by simp only [List.forall_mem_cons]; exact ⟨g93, g94, g95, g96, g97, g98, g99, g100, g101, g102, g103, g104, g105, g106, g107, g108, g109, fun p hp => absurd hp List.not_mem_nil⟩) (by kernel_rfl)
              simp only [List.foldl, List.setIfInBounds_toArray, List.set_cons_succ, List.set_cons_zero] at hT
              subst hT
              clear hF hD hs g93 g94 g95 g96 g97 g98 g99 g100 g101 g102 g103 g104 g105 g106 g107 g108 g109 s93 s94 s95 s96 s97 s98 s99 s100 s101 s102 s103 s104 s105 s106 s107 s108 s109
              replace hB := belT hB hb
              replace o1 := own_below o1 hb
              replace o2 := own_below o2 hb
              replace ox := own_below ox hb
              replace od := own_below od hb
              have hs18 := hb.size
              clear hb x0 x1
              have lx := (ox.lt gx rfl)
              have ld := (od.lt gd rfl)
              have l1 := (o1.lt g1 rfl)
              have l2 := (o2.lt g2 rfl)
              show wpOpsIn _ _ _ _ _ [17, 18] _ _
              refine tail_append rfl rfl rfl rfl rfl (.tmp 93) (.tmp 109) 22 rfl B 27 i0 (.agg #[.int .i64 0, .int .i64 0]) 2 16 Try.underlying22 hi hz0 hz1' hz2 rfl (by decide) _ _ _ rfl od ⟨bn, 0, none⟩ 1 cn [.int .i64 s2, .int .i64 c2] rfl rfl (row_news pn) (by intro u hu; simp at hu; rcases hu with rfl | rfl <;> rfl) (by decide) (by unfold maxLen; omega) (by omega) (by omega) ?_
              intro gy ky w10 oy hgrow hat hltx
              have hat := hat_of hat
              rw [← Hd.out] at oy
              replace o1 := o1.kept hgrow (.inr (own_far' (by omega)))
              replace o2 := o2.kept hgrow (.inr (own_far' (by omega)))
              replace ox := ox.kept hgrow (.inr (own_far' (by omega)))
              replace hB := hB.grown hgrow (by omega) (fun q hq => by have := (od.lt q hq).1; omega)
              have hs19 := hgrow.size
              have ly := (oy.lt gy rfl)
              have hne' : gx ≠ gy := by omega
              clear hgrow hat od ld pn
              simp only [wpOpsIn]
              go_simp
              go_wp2_with fail
              go_roundw
              case rel => exact ⟨k + 1, gx, gy, kx, ky, by omega, by go_num, rfl, rfl, hne', ox, oy, o1, o2, hB⟩
              case measure => simp [intOf]; omega
        · have hkn : k = u.length := by omega
          subst hkn
          have hcl := HCL.out
          have hdl := HDL.out
          have oC : wr.ownsRow B 27 2 (.slice (some ⟨gc, 0, none⟩) u.length kc) u.length (flat cs) := by
            have := oc
            rwa [List.take_of_length_le (by omega)] at this
          have oD : wr.ownsRow B 27 2 (.slice (some ⟨gd, 0, none⟩) u.length kd) u.length (flat ds) := by
            have := od
            rwa [List.take_of_length_le (by omega)] at this
          have pc : PRow wr (some ⟨gc, 0, none⟩) cs := prow_g (base := B) (c := kc) (e := 27) (by rw [hcl]; exact oC)
          have pd : PRow wr (some ⟨gd, 0, none⟩) ds := prow_g (base := B) (c := kd) (e := 27) (by rw [hdl]; exact oD)
          have ncs : cs.length ≤ 1000000 := by omega
          have nds : ds.length ≤ 1000000 := by omega
          obtain ⟨p0, p1, hp⟩ : ∃ x y, foldP lowP cs = (x, y) := ⟨_, _, rfl⟩
          obtain ⟨r0, r1, hr⟩ : ∃ x y, foldP uppP cs = (x, y) := ⟨_, _, rfl⟩
          have HP := Lib.hid hp
          have HR := Lib.hid hr
          have il := low_inr cs rcs
          have iu := upp_inr cs rcs
          rw [hp] at il
          rw [hr] at iu
          obtain ⟨W, hW⟩ : ∃ W, r0 - p0 = W := ⟨_, rfl⟩
          obtain ⟨Z, hZ⟩ : ∃ Z, 219700009 - W = Z := ⟨_, rfl⟩
          have q5 := run_max2 0 Z
          obtain ⟨S, hS⟩ : ∃ S, mxI 0 Z = S := ⟨_, rfl⟩
          rw [hS] at q5
          have wb : -3000000000 ≤ W ∧ W ≤ 3000000000 := by
            have a := il.1
            have b := iu.1
            unfold InR at a b
            simp only at a b
            omega
          have hw1 : IntKind.i64.wrap W = W := by rw [IntKind.wrap_i64]; omega
          have hw2 : IntKind.i64.wrap Z = Z := by rw [IntKind.wrap_i64]; omega
          have HS : 0 < u.length → boxD cs ds = S := fun h => by
            rw [← HDS.out, box_shift cs (by omega), hp, hr]
            show mxI 0 (219700009 - (r0 - p0)) = S
            rw [hW, hZ, hS]
          have HSH := Lib.hid HS
          clear il iu hp hr wb hS HS oc od oC oD hcl hdl
          go_wp2_with fail
          refine (bbox_at (some ⟨gc, 0, none⟩) kc cs _ _ ncs HCL.out pc p0 p1 r0 r1 HP HR).mono ?_; rintro e w5 ⟨rfl, hb⟩
          replace o1 := own_below o1 hb
          replace o2 := own_below o2 hb
          replace pc := prow_below pc hb
          replace pd := prow_below pd hb
          replace hB := belT hB hb
          clear hb
          have bl := blk_alloc (blk_new w5 (.cells #[.int .i64 p0, .int .i64 p1] 27) _ rfl) (.cells #[.int .i64 r0, .int .i64 r1] 27)
          have bh := blk_new (w5.alloc (.cells #[.int .i64 p0, .int .i64 p1] 27)) (.cells #[.int .i64 r0, .int .i64 r1] 27) (w5.heap.size + 1) (by simp)
          replace o1 := (o1.alloc (.cells #[.int .i64 p0, .int .i64 p1] 27)).alloc (.cells #[.int .i64 r0, .int .i64 r1] 27)
          replace o2 := (o2.alloc (.cells #[.int .i64 p0, .int .i64 p1] 27)).alloc (.cells #[.int .i64 r0, .int .i64 r1] 27)
          replace pc := prow_alloc (prow_alloc pc (.cells #[.int .i64 p0, .int .i64 p1] 27)) (.cells #[.int .i64 r0, .int .i64 r1] 27)
          replace pd := prow_alloc (prow_alloc pd (.cells #[.int .i64 p0, .int .i64 p1] 27)) (.cells #[.int .i64 r0, .int .i64 r1] 27)
          replace hB := belA (belA hB (.cells #[.int .i64 p0, .int .i64 p1] 27)) (.cells #[.int .i64 r0, .int .i64 r1] 27)
          have l0 := blk_cell bl 0 _ rfl
          have l1 := blk_cell bl 1 _ rfl
          have h0 := blk_cell bh 0 _ rfl
          have h1 := blk_cell bh 1 _ rfl
          have hBx := hB
          have hcl := HCL.out
          have hdl := HDL.out
          have HCL' := Lib.hid hcl
          have HDL' := Lib.hid hdl
          clear hB hcl hdl bl bh
          go_upto_region 23 with fail
          by_cases hz : u.length = 0
          · have n0 : ((u.length : Int) == 0) = true := by rw [beq_iff_eq]; omega
            clear HSH hz
            obtain ⟨sp, hsp⟩ : ∃ sp : Told, sp = [none, none, none, none, some (.inl (.bool true)), none, none, none, none, none, none, none, none, none, none, none, none, none, none, none, none, none, none, none, none, none, none, none, none, none, none, none, none, none, none, none, none, none, none, none, none, none, none, none, none, none, none, none, none, none, none, none, none, none, none, none, none, none, none, none, none, none, none, none, none, none, none, none, none, none, none, none, none, none, none, none, none, none, none, none, none, none, none, none, none, none, none, none, none, none, none, none, none, none, none, none, none, none, none, none, none, none, none, none, none, none, none, none, none, none, none, none, none, none, none, none, some (.inl (.bool true)), some (.inl (.bool true)), some (.inl (.int .i64 g)), some (.inl (.bool true)), some (.inl (.bool true)), some (.inl (.bool true)), some (.inl (.int .i64 g)), some (.inl (.slice (some ⟨g2, 0, none⟩) v.length k2)), some (.inl (.slice (some ⟨g1, 0, none⟩) u.length k1)), some (.inl (.int .i64 g)), some (.inl (.bool true)), some (.inl (.bool true)), some (.inl (.bool true)), some (.inl (.slice (some ⟨g1, 0, none⟩) u.length k1)), some (.inl (.int .i64 (u.length : Int))), some (.inl (.bool true)), some (.inl (.bool true)), none, none, none, none, none, none, none, none, none, none, none, some (.inl (.bool true)), some (.inl (.bool true))] := ⟨_, rfl⟩
            have s4 : sp.getD 4 none = some (.inl (.bool true)) := by rw [hsp]; rfl
            have s116 : sp.getD 116 none = some (.inl (.bool true)) := by rw [hsp]; rfl
            have s117 : sp.getD 117 none = some (.inl (.bool true)) := by rw [hsp]; rfl
            have s118 : sp.getD 118 none = some (.inl (.int .i64 g)) := by rw [hsp]; rfl
            have s119 : sp.getD 119 none = some (.inl (.bool true)) := by rw [hsp]; rfl
            have s120 : sp.getD 120 none = some (.inl (.bool true)) := by rw [hsp]; rfl
            have s121 : sp.getD 121 none = some (.inl (.bool true)) := by rw [hsp]; rfl
            have s122 : sp.getD 122 none = some (.inl (.int .i64 g)) := by rw [hsp]; rfl
            have s123 : sp.getD 123 none = some (.inl (.slice (some ⟨g2, 0, none⟩) v.length k2)) := by rw [hsp]; rfl
            have s124 : sp.getD 124 none = some (.inl (.slice (some ⟨g1, 0, none⟩) u.length k1)) := by rw [hsp]; rfl
            have s125 : sp.getD 125 none = some (.inl (.int .i64 g)) := by rw [hsp]; rfl
            have s126 : sp.getD 126 none = some (.inl (.bool true)) := by rw [hsp]; rfl
            have s127 : sp.getD 127 none = some (.inl (.bool true)) := by rw [hsp]; rfl
            have s128 : sp.getD 128 none = some (.inl (.bool true)) := by rw [hsp]; rfl
            have s129 : sp.getD 129 none = some (.inl (.slice (some ⟨g1, 0, none⟩) u.length k1)) := by rw [hsp]; rfl
            have s130 : sp.getD 130 none = some (.inl (.int .i64 (u.length : Int))) := by rw [hsp]; rfl
            have s131 : sp.getD 131 none = some (.inl (.bool true)) := by rw [hsp]; rfl
            have s132 : sp.getD 132 none = some (.inl (.bool true)) := by rw [hsp]; rfl
            have s133 : sp.getD 133 none = none := by rw [hsp]; rfl
            have s134 : sp.getD 134 none = none := by rw [hsp]; rfl
            have s135 : sp.getD 135 none = none := by rw [hsp]; rfl
            have s136 : sp.getD 136 none = none := by rw [hsp]; rfl
            have s137 : sp.getD 137 none = none := by rw [hsp]; rfl
            have s138 : sp.getD 138 none = none := by rw [hsp]; rfl
            have s139 : sp.getD 139 none = none := by rw [hsp]; rfl
            have s140 : sp.getD 140 none = none := by rw [hsp]; rfl
            have s141 : sp.getD 141 none = none := by rw [hsp]; rfl
            have s142 : sp.getD 142 none = none := by rw [hsp]; rfl
            have s143 : sp.getD 143 none = none := by rw [hsp]; rfl
            have s144 : sp.getD 144 none = some (.inl (.bool true)) := by rw [hsp]; rfl
            have s145 : sp.getD 145 none = some (.inl (.bool true)) := by rw [hsp]; rfl
            clear hsp
            refine region_obs sp (by kernel_rfl) (by kernel_rfl) ?_ ?_
            · rw [List.toList_toArray]
              refine obs_cons ?_ ?_
              · intro T wx K hB hF hD hK
                have g5 : T[5]? = some (.bool true) := hF 5 (free_of (by kernel_rfl))
                refine ob_yes (wanted_none rfl) ?_
                clear hF hD
                go_simp
                exact hK _ _ (Below.refl _ _) (rt_eq s116)
              refine obs_cons ?_ ?_
              · intro T wx K hB hF hD hK
                have g116 := get_eq (hD 0 116 (by simp [Region.binds]) (by kernel_rfl)) s116
                refine ob_yes (wanted_none rfl) ?_
                clear hF hD
                go_simp
                exact hK _ _ (Below.refl _ _) (rt_eq s117)
              refine obs_cons ?_ ?_
              · intro T wx K hB hF hD hK
                have g117 := get_eq (hD 1 117 (by simp [Region.binds]) (by kernel_rfl)) s117
                have g8 : T[8]? = some (.int .i64 g) := hF 8 (free_of (by kernel_rfl))
                refine ob_yes (wanted_yes rfl (by kernel_rfl) g117) ?_
                clear hF hD
                go_simp
                exact hK _ _ (Below.refl _ _) (rt_eq s118)
              refine obs_cons ?_ ?_
              · intro T wx K hB hF hD hK
                have g117 := get_eq (hD 1 117 (by simp [Region.binds]) (by kernel_rfl)) s117
                have g118 := get_eq (hD 2 118 (by simp [Region.binds]) (by kernel_rfl)) s118
                refine ob_yes (wanted_yes rfl (by kernel_rfl) g117) ?_
                clear hF hD
                go_simp
                exact hK _ _ (Below.refl _ _) (rt_eq s119)
              refine obs_cons ?_ ?_
              · intro T wx K hB hF hD hK
                have g117 := get_eq (hD 1 117 (by simp [Region.binds]) (by kernel_rfl)) s117
                have g119 := get_eq (hD 3 119 (by simp [Region.binds]) (by kernel_rfl)) s119
                refine ob_yes (wanted_none rfl) ?_
                clear hF hD
                go_simp
                exact hK _ _ (Below.refl _ _) (rt_eq s120)
              refine obs_cons ?_ ?_
              · intro T wx K hB hF hD hK
                have g120 := get_eq (hD 4 120 (by simp [Region.binds]) (by kernel_rfl)) s120
                refine ob_yes (wanted_none rfl) ?_
                clear hF hD
                go_simp
                exact hK _ _ (Below.refl _ _) (rt_eq s121)
              refine obs_cons ?_ ?_
              · intro T wx K hB hF hD hK
                have g121 := get_eq (hD 5 121 (by simp [Region.binds]) (by kernel_rfl)) s121
                have g8 : T[8]? = some (.int .i64 g) := hF 8 (free_of (by kernel_rfl))
                refine ob_yes (wanted_yes rfl (by kernel_rfl) g121) ?_
                clear hF hD
                go_simp
                exact hK _ _ (Below.refl _ _) (rt_eq s122)
              refine obs_cons ?_ ?_
              · intro T wx K hB hF hD hK
                have g121 := get_eq (hD 5 121 (by simp [Region.binds]) (by kernel_rfl)) s121
                have g7 : T[7]? = some (.slice (some ⟨g2, 0, none⟩) v.length k2) := hF 7 (free_of (by kernel_rfl))
                refine ob_yes (wanted_yes rfl (by kernel_rfl) g121) ?_
                clear hF hD
                go_simp
                exact hK _ _ (Below.refl _ _) (rt_eq s123)
              refine obs_cons ?_ ?_
              · intro T wx K hB hF hD hK
                have g121 := get_eq (hD 5 121 (by simp [Region.binds]) (by kernel_rfl)) s121
                have g6 : T[6]? = some (.slice (some ⟨g1, 0, none⟩) u.length k1) := hF 6 (free_of (by kernel_rfl))
                refine ob_yes (wanted_yes rfl (by kernel_rfl) g121) ?_
                clear hF hD
                go_simp
                exact hK _ _ (Below.refl _ _) (rt_eq s124)
              refine obs_cons ?_ ?_
              · intro T wx K hB hF hD hK
                have g121 := get_eq (hD 5 121 (by simp [Region.binds]) (by kernel_rfl)) s121
                have g123 := get_eq (hD 7 123 (by simp [Region.binds]) (by kernel_rfl)) s123
                have g124 := get_eq (hD 8 124 (by simp [Region.binds]) (by kernel_rfl)) s124
                refine ob_yes (wanted_yes rfl (by kernel_rfl) g121) ?_
                clear hF hD
                go_simp
                refine (bd_is (some ⟨g2, 0, none⟩) (some ⟨g1, 0, none⟩) k2 k1 v u g _ _ _ rfl rfl nv' nu' (prow_below (prow_g o2) hB) (prow_below (prow_g o1) hB) rv ru HGS).mono ?_; rintro e w9 ⟨rfl, hb⟩
                exact hK _ _ hb (rt_eq s125)
              refine obs_cons ?_ ?_
              · intro T wx K hB hF hD hK
                have g121 := get_eq (hD 5 121 (by simp [Region.binds]) (by kernel_rfl)) s121
                have g122 := get_eq (hD 6 122 (by simp [Region.binds]) (by kernel_rfl)) s122
                have g125 := get_eq (hD 9 125 (by simp [Region.binds]) (by kernel_rfl)) s125
                refine ob_yes (wanted_yes rfl (by kernel_rfl) g121) ?_
                clear hF hD
                go_simp
                exact hK _ _ (Below.refl _ _) (rt_eq s126)
              refine obs_cons ?_ ?_
              · intro T wx K hB hF hD hK
                have g121 := get_eq (hD 5 121 (by simp [Region.binds]) (by kernel_rfl)) s121
                have g126 := get_eq (hD 10 126 (by simp [Region.binds]) (by kernel_rfl)) s126
                refine ob_yes (wanted_none rfl) ?_
                clear hF hD
                go_simp
                exact hK _ _ (Below.refl _ _) (rt_eq s127)
              refine obs_cons ?_ ?_
              · intro T wx K hB hF hD hK
                have g127 := get_eq (hD 11 127 (by simp [Region.binds]) (by kernel_rfl)) s127
                refine ob_yes (wanted_none rfl) ?_
                clear hF hD
                go_simp
                exact hK _ _ (Below.refl _ _) (rt_eq s128)
              refine obs_cons ?_ ?_
              · intro T wx K hB hF hD hK
                have g128 := get_eq (hD 12 128 (by simp [Region.binds]) (by kernel_rfl)) s128
                have g6 : T[6]? = some (.slice (some ⟨g1, 0, none⟩) u.length k1) := hF 6 (free_of (by kernel_rfl))
                refine ob_yes (wanted_yes rfl (by kernel_rfl) g128) ?_
                clear hF hD
                go_simp
                exact hK _ _ (Below.refl _ _) (rt_eq s129)
              refine obs_cons ?_ ?_
              · intro T wx K hB hF hD hK
                have g128 := get_eq (hD 12 128 (by simp [Region.binds]) (by kernel_rfl)) s128
                have g129 := get_eq (hD 13 129 (by simp [Region.binds]) (by kernel_rfl)) s129
                refine ob_yes (wanted_yes rfl (by kernel_rfl) g128) ?_
                clear hF hD
                go_simp
                exact hK _ _ (Below.refl _ _) (rt_eq s130)
              refine obs_cons ?_ ?_
              · intro T wx K hB hF hD hK
                have g128 := get_eq (hD 12 128 (by simp [Region.binds]) (by kernel_rfl)) s128
                have g130 := get_eq (hD 14 130 (by simp [Region.binds]) (by kernel_rfl)) s130
                refine ob_yes (wanted_yes rfl (by kernel_rfl) g128) ?_
                clear hF hD
                go_simp
                exact hK _ _ (Below.refl _ _) (rt_eq s131)
              refine obs_cons ?_ ?_
              · intro T wx K hB hF hD hK
                have g128 := get_eq (hD 12 128 (by simp [Region.binds]) (by kernel_rfl)) s128
                have g131 := get_eq (hD 15 131 (by simp [Region.binds]) (by kernel_rfl)) s131
                refine ob_yes (wanted_yes rfl (by kernel_rfl) g128) ?_
                clear hF hD
                go_simp
                exact hK _ _ (Below.refl _ _) (rt_eq s132)
              refine obs_cons ?_ ?_
              · intro T wx K hB hF hD hK
                have g132 := get_eq (hD 16 132 (by simp [Region.binds]) (by kernel_rfl)) s132
                refine ob_no (wanted_no rfl (by kernel_rfl) g132 rfl) ?_
                exact hK _ _ (Below.refl _ _) (rt_any s133)
              refine obs_cons ?_ ?_
              · intro T wx K hB hF hD hK
                have g132 := get_eq (hD 16 132 (by simp [Region.binds]) (by kernel_rfl)) s132
                refine ob_no (wanted_no rfl (by kernel_rfl) g132 rfl) ?_
                exact hK _ _ (Below.refl _ _) (rt_any s134)
              refine obs_cons ?_ ?_
              · intro T wx K hB hF hD hK
                have g132 := get_eq (hD 16 132 (by simp [Region.binds]) (by kernel_rfl)) s132
                refine ob_no (wanted_no rfl (by kernel_rfl) g132 rfl) ?_
                exact hK _ _ (Below.refl _ _) (rt_any s135)
              refine obs_cons ?_ ?_
              · intro T wx K hB hF hD hK
                have g132 := get_eq (hD 16 132 (by simp [Region.binds]) (by kernel_rfl)) s132
                refine ob_no (wanted_no rfl (by kernel_rfl) g132 rfl) ?_
                exact hK _ _ (Below.refl _ _) (rt_any s136)
              refine obs_cons ?_ ?_
              · intro T wx K hB hF hD hK
                have g132 := get_eq (hD 16 132 (by simp [Region.binds]) (by kernel_rfl)) s132
                refine ob_no (wanted_no rfl (by kernel_rfl) g132 rfl) ?_
                exact hK _ _ (Below.refl _ _) (rt_any s137)
              refine obs_cons ?_ ?_
              · intro T wx K hB hF hD hK
                have g132 := get_eq (hD 16 132 (by simp [Region.binds]) (by kernel_rfl)) s132
                refine ob_no (wanted_no rfl (by kernel_rfl) g132 rfl) ?_
                exact hK _ _ (Below.refl _ _) (rt_any s138)
              refine obs_cons ?_ ?_
              · intro T wx K hB hF hD hK
                have g132 := get_eq (hD 16 132 (by simp [Region.binds]) (by kernel_rfl)) s132
                refine ob_no (wanted_no rfl (by kernel_rfl) g132 rfl) ?_
                exact hK _ _ (Below.refl _ _) (rt_any s139)
              refine obs_cons ?_ ?_
              · intro T wx K hB hF hD hK
                have g132 := get_eq (hD 16 132 (by simp [Region.binds]) (by kernel_rfl)) s132
                refine ob_no (wanted_no rfl (by kernel_rfl) g132 rfl) ?_
                exact hK _ _ (Below.refl _ _) (rt_any s140)
              refine obs_cons ?_ ?_
              · intro T wx K hB hF hD hK
                have g132 := get_eq (hD 16 132 (by simp [Region.binds]) (by kernel_rfl)) s132
                refine ob_no (wanted_no rfl (by kernel_rfl) g132 rfl) ?_
                exact hK _ _ (Below.refl _ _) (rt_any s141)
              refine obs_cons ?_ ?_
              · intro T wx K hB hF hD hK
                have g132 := get_eq (hD 16 132 (by simp [Region.binds]) (by kernel_rfl)) s132
                refine ob_no (wanted_no rfl (by kernel_rfl) g132 rfl) ?_
                exact hK _ _ (Below.refl _ _) (rt_any s142)
              refine obs_cons ?_ ?_
              · intro T wx K hB hF hD hK
                have g132 := get_eq (hD 16 132 (by simp [Region.binds]) (by kernel_rfl)) s132
                refine ob_no (wanted_no rfl (by kernel_rfl) g132 rfl) ?_
                exact hK _ _ (Below.refl _ _) (rt_any s143)
              refine obs_cons ?_ ?_
              · intro T wx K hB hF hD hK
                have g128 := get_eq (hD 12 128 (by simp [Region.binds]) (by kernel_rfl)) s128
                have g132 := get_eq (hD 16 132 (by simp [Region.binds]) (by kernel_rfl)) s132
                refine ob_yes (wanted_yes rfl (by kernel_rfl) g128) ?_
                clear hF hD
                go_simp
                exact hK _ _ (Below.refl _ _) (rt_eq s144)
              refine obs_cons ?_ ?_
              · intro T wx K hB hF hD hK
                have g128 := get_eq (hD 12 128 (by simp [Region.binds]) (by kernel_rfl)) s128
                have g144 := get_eq (hD 28 144 (by simp [Region.binds]) (by kernel_rfl)) s144
                refine ob_yes (wanted_none rfl) ?_
                clear hF hD
                go_simp
                exact hK _ _ (Below.refl _ _) (rt_eq s145)
              refine obs_cons ?_ ?_
              · intro T wx K hB hF hD hK
                have g145 := get_eq (hD 29 145 (by simp [Region.binds]) (by kernel_rfl)) s145
                refine ob_yes (wanted_none rfl) ?_
                clear hF hD
                go_simp
                exact hK _ _ (Below.refl _ _) (rt_eq s4)
              exact obs_nil
            · intro T w' hb hF hs hD
              have g4 := get_eq (hD 30 4 (by kernel_rfl)) s4
              have fin := Lib.hid (hBx.trans (hb.mono hBx.size))
              clear hF hD hs hb
              go_wp2_with fail
              refine bodyPost_ret (v := .bool true) (by simp [results, Try.results4, go_sem, g4]) rfl ?_
              exact ⟨rfl, fin.out⟩
          · have n0 : ((u.length : Int) == 0) = false := by rw [beq_eq_false_iff_ne]; omega
            have HS : Hid (boxD cs ds = S) := Lib.hid (HSH.out (by omega))
            clear HSH hz
            obtain ⟨sp, hsp⟩ : ∃ sp : Told, sp = [none, none, none, none, some (.inl (.bool true)), none, none, none, none, none, none, none, none, none, none, none, none, none, none, none, none, none, none, none, none, none, none, none, none, none, none, none, none, none, none, none, none, none, none, none, none, none, none, none, none, none, none, none, none, none, none, none, none, none, none, none, none, none, none, none, none, none, none, none, none, none, none, none, none, none, none, none, none, none, none, none, none, none, none, none, none, none, none, none, none, none, none, none, none, none, none, none, none, none, none, none, none, none, none, none, none, none, none, none, none, none, none, none, none, none, none, none, none, none, none, none, some (.inl (.bool true)), some (.inl (.bool true)), some (.inl (.int .i64 g)), some (.inl (.bool true)), some (.inl (.bool true)), some (.inl (.bool true)), some (.inl (.int .i64 g)), some (.inl (.slice (some ⟨g2, 0, none⟩) v.length k2)), some (.inl (.slice (some ⟨g1, 0, none⟩) u.length k1)), some (.inl (.int .i64 g)), some (.inl (.bool true)), some (.inl (.bool true)), some (.inl (.bool true)), some (.inl (.slice (some ⟨g1, 0, none⟩) u.length k1)), some (.inl (.int .i64 (u.length : Int))), some (.inl (.bool false)), some (.inl (.bool false)), some (.inl (.slice (some ⟨gc, 0, none⟩) u.length kc)), some (.inl (.slice (some ⟨gd, 0, none⟩) u.length kd)), some (.inl (.int .i64 S)), some (.inl (.pointer (some ⟨w5.heap.size + 1, 0, none⟩))), some (.inl (.int .i64 r0)), some (.inl (.pointer (some ⟨w5.heap.size, 0, none⟩))), some (.inl (.int .i64 p0)), some (.inl (.int .i64 W)), some (.inl (.int .i64 Z)), some (.inl (.int .i64 S)), some (.inl (.bool true)), some (.inl (.bool true)), some (.inl (.bool true))] := ⟨_, rfl⟩
            have s4 : sp.getD 4 none = some (.inl (.bool true)) := by rw [hsp]; rfl
            have s116 : sp.getD 116 none = some (.inl (.bool true)) := by rw [hsp]; rfl
            have s117 : sp.getD 117 none = some (.inl (.bool true)) := by rw [hsp]; rfl
            have s118 : sp.getD 118 none = some (.inl (.int .i64 g)) := by rw [hsp]; rfl
            have s119 : sp.getD 119 none = some (.inl (.bool true)) := by rw [hsp]; rfl
            have s120 : sp.getD 120 none = some (.inl (.bool true)) := by rw [hsp]; rfl
            have s121 : sp.getD 121 none = some (.inl (.bool true)) := by rw [hsp]; rfl
            have s122 : sp.getD 122 none = some (.inl (.int .i64 g)) := by rw [hsp]; rfl
            have s123 : sp.getD 123 none = some (.inl (.slice (some ⟨g2, 0, none⟩) v.length k2)) := by rw [hsp]; rfl
            have s124 : sp.getD 124 none = some (.inl (.slice (some ⟨g1, 0, none⟩) u.length k1)) := by rw [hsp]; rfl
            have s125 : sp.getD 125 none = some (.inl (.int .i64 g)) := by rw [hsp]; rfl
            have s126 : sp.getD 126 none = some (.inl (.bool true)) := by rw [hsp]; rfl
            have s127 : sp.getD 127 none = some (.inl (.bool true)) := by rw [hsp]; rfl
            have s128 : sp.getD 128 none = some (.inl (.bool true)) := by rw [hsp]; rfl
            have s129 : sp.getD 129 none = some (.inl (.slice (some ⟨g1, 0, none⟩) u.length k1)) := by rw [hsp]; rfl
            have s130 : sp.getD 130 none = some (.inl (.int .i64 (u.length : Int))) := by rw [hsp]; rfl
            have s131 : sp.getD 131 none = some (.inl (.bool false)) := by rw [hsp]; rfl
            have s132 : sp.getD 132 none = some (.inl (.bool false)) := by rw [hsp]; rfl
            have s133 : sp.getD 133 none = some (.inl (.slice (some ⟨gc, 0, none⟩) u.length kc)) := by rw [hsp]; rfl
            have s134 : sp.getD 134 none = some (.inl (.slice (some ⟨gd, 0, none⟩) u.length kd)) := by rw [hsp]; rfl
            have s135 : sp.getD 135 none = some (.inl (.int .i64 S)) := by rw [hsp]; rfl
            have s136 : sp.getD 136 none = some (.inl (.pointer (some ⟨w5.heap.size + 1, 0, none⟩))) := by rw [hsp]; rfl
            have s137 : sp.getD 137 none = some (.inl (.int .i64 r0)) := by rw [hsp]; rfl
            have s138 : sp.getD 138 none = some (.inl (.pointer (some ⟨w5.heap.size, 0, none⟩))) := by rw [hsp]; rfl
            have s139 : sp.getD 139 none = some (.inl (.int .i64 p0)) := by rw [hsp]; rfl
            have s140 : sp.getD 140 none = some (.inl (.int .i64 W)) := by rw [hsp]; rfl
            have s141 : sp.getD 141 none = some (.inl (.int .i64 Z)) := by rw [hsp]; rfl
            have s142 : sp.getD 142 none = some (.inl (.int .i64 S)) := by rw [hsp]; rfl
            have s143 : sp.getD 143 none = some (.inl (.bool true)) := by rw [hsp]; rfl
            have s144 : sp.getD 144 none = some (.inl (.bool true)) := by rw [hsp]; rfl
            have s145 : sp.getD 145 none = some (.inl (.bool true)) := by rw [hsp]; rfl
            clear hsp
            refine region_obs sp (by kernel_rfl) (by kernel_rfl) ?_ ?_
            · rw [List.toList_toArray]
              refine obs_cons ?_ ?_
              · intro T wx K hB hF hD hK
                have g5 : T[5]? = some (.bool true) := hF 5 (free_of (by kernel_rfl))
                refine ob_yes (wanted_none rfl) ?_
                clear hF hD
                go_simp
                exact hK _ _ (Below.refl _ _) (rt_eq s116)
              refine obs_cons ?_ ?_
              · intro T wx K hB hF hD hK
                have g116 := get_eq (hD 0 116 (by simp [Region.binds]) (by kernel_rfl)) s116
                refine ob_yes (wanted_none rfl) ?_
                clear hF hD
                go_simp
                exact hK _ _ (Below.refl _ _) (rt_eq s117)
              refine obs_cons ?_ ?_
              · intro T wx K hB hF hD hK
                have g117 := get_eq (hD 1 117 (by simp [Region.binds]) (by kernel_rfl)) s117
                have g8 : T[8]? = some (.int .i64 g) := hF 8 (free_of (by kernel_rfl))
                refine ob_yes (wanted_yes rfl (by kernel_rfl) g117) ?_
                clear hF hD
                go_simp
                exact hK _ _ (Below.refl _ _) (rt_eq s118)
              refine obs_cons ?_ ?_
              · intro T wx K hB hF hD hK
                have g117 := get_eq (hD 1 117 (by simp [Region.binds]) (by kernel_rfl)) s117
                have g118 := get_eq (hD 2 118 (by simp [Region.binds]) (by kernel_rfl)) s118
                refine ob_yes (wanted_yes rfl (by kernel_rfl) g117) ?_
                clear hF hD
                go_simp
                exact hK _ _ (Below.refl _ _) (rt_eq s119)
              refine obs_cons ?_ ?_
              · intro T wx K hB hF hD hK
                have g117 := get_eq (hD 1 117 (by simp [Region.binds]) (by kernel_rfl)) s117
                have g119 := get_eq (hD 3 119 (by simp [Region.binds]) (by kernel_rfl)) s119
                refine ob_yes (wanted_none rfl) ?_
                clear hF hD
                go_simp
                exact hK _ _ (Below.refl _ _) (rt_eq s120)
              refine obs_cons ?_ ?_
              · intro T wx K hB hF hD hK
                have g120 := get_eq (hD 4 120 (by simp [Region.binds]) (by kernel_rfl)) s120
                refine ob_yes (wanted_none rfl) ?_
                clear hF hD
                go_simp
                exact hK _ _ (Below.refl _ _) (rt_eq s121)
              refine obs_cons ?_ ?_
              · intro T wx K hB hF hD hK
                have g121 := get_eq (hD 5 121 (by simp [Region.binds]) (by kernel_rfl)) s121
                have g8 : T[8]? = some (.int .i64 g) := hF 8 (free_of (by kernel_rfl))
                refine ob_yes (wanted_yes rfl (by kernel_rfl) g121) ?_
                clear hF hD
                go_simp
                exact hK _ _ (Below.refl _ _) (rt_eq s122)
              refine obs_cons ?_ ?_
              · intro T wx K hB hF hD hK
                have g121 := get_eq (hD 5 121 (by simp [Region.binds]) (by kernel_rfl)) s121
                have g7 : T[7]? = some (.slice (some ⟨g2, 0, none⟩) v.length k2) := hF 7 (free_of (by kernel_rfl))
                refine ob_yes (wanted_yes rfl (by kernel_rfl) g121) ?_
                clear hF hD
                go_simp
                exact hK _ _ (Below.refl _ _) (rt_eq s123)
              refine obs_cons ?_ ?_
              · intro T wx K hB hF hD hK
                have g121 := get_eq (hD 5 121 (by simp [Region.binds]) (by kernel_rfl)) s121
                have g6 : T[6]? = some (.slice (some ⟨g1, 0, none⟩) u.length k1) := hF 6 (free_of (by kernel_rfl))
                refine ob_yes (wanted_yes rfl (by kernel_rfl) g121) ?_
                clear hF hD
                go_simp
                exact hK _ _ (Below.refl _ _) (rt_eq s124)
              refine obs_cons ?_ ?_
              · intro T wx K hB hF hD hK
                have g121 := get_eq (hD 5 121 (by simp [Region.binds]) (by kernel_rfl)) s121
                have g123 := get_eq (hD 7 123 (by simp [Region.binds]) (by kernel_rfl)) s123
                have g124 := get_eq (hD 8 124 (by simp [Region.binds]) (by kernel_rfl)) s124
                refine ob_yes (wanted_yes rfl (by kernel_rfl) g121) ?_
                clear hF hD
                go_simp
                refine (bd_is (some ⟨g2, 0, none⟩) (some ⟨g1, 0, none⟩) k2 k1 v u g _ _ _ rfl rfl nv' nu' (prow_below (prow_g o2) hB) (prow_below (prow_g o1) hB) rv ru HGS).mono ?_; rintro e w9 ⟨rfl, hb⟩
                exact hK _ _ hb (rt_eq s125)
              refine obs_cons ?_ ?_
              · intro T wx K hB hF hD hK
                have g121 := get_eq (hD 5 121 (by simp [Region.binds]) (by kernel_rfl)) s121
                have g122 := get_eq (hD 6 122 (by simp [Region.binds]) (by kernel_rfl)) s122
                have g125 := get_eq (hD 9 125 (by simp [Region.binds]) (by kernel_rfl)) s125
                refine ob_yes (wanted_yes rfl (by kernel_rfl) g121) ?_
                clear hF hD
                go_simp
                exact hK _ _ (Below.refl _ _) (rt_eq s126)
              refine obs_cons ?_ ?_
              · intro T wx K hB hF hD hK
                have g121 := get_eq (hD 5 121 (by simp [Region.binds]) (by kernel_rfl)) s121
                have g126 := get_eq (hD 10 126 (by simp [Region.binds]) (by kernel_rfl)) s126
                refine ob_yes (wanted_none rfl) ?_
                clear hF hD
                go_simp
                exact hK _ _ (Below.refl _ _) (rt_eq s127)
              refine obs_cons ?_ ?_
              · intro T wx K hB hF hD hK
                have g127 := get_eq (hD 11 127 (by simp [Region.binds]) (by kernel_rfl)) s127
                refine ob_yes (wanted_none rfl) ?_
                clear hF hD
                go_simp
                exact hK _ _ (Below.refl _ _) (rt_eq s128)
              refine obs_cons ?_ ?_
              · intro T wx K hB hF hD hK
                have g128 := get_eq (hD 12 128 (by simp [Region.binds]) (by kernel_rfl)) s128
                have g6 : T[6]? = some (.slice (some ⟨g1, 0, none⟩) u.length k1) := hF 6 (free_of (by kernel_rfl))
                refine ob_yes (wanted_yes rfl (by kernel_rfl) g128) ?_
                clear hF hD
                go_simp
                exact hK _ _ (Below.refl _ _) (rt_eq s129)
              refine obs_cons ?_ ?_
              · intro T wx K hB hF hD hK
                have g128 := get_eq (hD 12 128 (by simp [Region.binds]) (by kernel_rfl)) s128
                have g129 := get_eq (hD 13 129 (by simp [Region.binds]) (by kernel_rfl)) s129
                refine ob_yes (wanted_yes rfl (by kernel_rfl) g128) ?_
                clear hF hD
                go_simp
                exact hK _ _ (Below.refl _ _) (rt_eq s130)
              refine obs_cons ?_ ?_
              · intro T wx K hB hF hD hK
                have g128 := get_eq (hD 12 128 (by simp [Region.binds]) (by kernel_rfl)) s128
                have g130 := get_eq (hD 14 130 (by simp [Region.binds]) (by kernel_rfl)) s130
                refine ob_yes (wanted_yes rfl (by kernel_rfl) g128) ?_
                clear hF hD
                go_simp
                exact hK _ _ (Below.refl _ _) (rt_eq s131)
              refine obs_cons ?_ ?_
              · intro T wx K hB hF hD hK
                have g128 := get_eq (hD 12 128 (by simp [Region.binds]) (by kernel_rfl)) s128
                have g131 := get_eq (hD 15 131 (by simp [Region.binds]) (by kernel_rfl)) s131
                refine ob_yes (wanted_yes rfl (by kernel_rfl) g128) ?_
                clear hF hD
                go_simp
                exact hK _ _ (Below.refl _ _) (rt_eq s132)
              refine obs_cons ?_ ?_
              · intro T wx K hB hF hD hK
                have g132 := get_eq (hD 16 132 (by simp [Region.binds]) (by kernel_rfl)) s132
                have g13 : T[13]? = some (.slice (some ⟨gc, 0, none⟩) u.length kc) := hF 13 (free_of (by kernel_rfl))
                refine ob_yes (wanted_yes rfl (by kernel_rfl) g132) ?_
                clear hF hD
                go_simp
                exact hK _ _ (Below.refl _ _) (rt_eq s133)
              refine obs_cons ?_ ?_
              · intro T wx K hB hF hD hK
                have g132 := get_eq (hD 16 132 (by simp [Region.binds]) (by kernel_rfl)) s132
                have g14 : T[14]? = some (.slice (some ⟨gd, 0, none⟩) u.length kd) := hF 14 (free_of (by kernel_rfl))
                refine ob_yes (wanted_yes rfl (by kernel_rfl) g132) ?_
                clear hF hD
                go_simp
                exact hK _ _ (Below.refl _ _) (rt_eq s134)
              refine obs_cons ?_ ?_
              · intro T wx K hB hF hD hK
                have g132 := get_eq (hD 16 132 (by simp [Region.binds]) (by kernel_rfl)) s132
                have g133 := get_eq (hD 17 133 (by simp [Region.binds]) (by kernel_rfl)) s133
                have g134 := get_eq (hD 18 134 (by simp [Region.binds]) (by kernel_rfl)) s134
                refine ob_yes (wanted_yes rfl (by kernel_rfl) g132) ?_
                clear hF hD
                go_simp
                refine (bd_is (some ⟨gc, 0, none⟩) (some ⟨gd, 0, none⟩) kc kd cs ds S _ _ _ HCL'.out HDL'.out ncs nds (prow_below pc hB) (prow_below pd hB) rcs rds HS).mono ?_; rintro e w9 ⟨rfl, hb⟩
                exact hK _ _ hb (rt_eq s135)
              refine obs_cons ?_ ?_
              · intro T wx K hB hF hD hK
                have g132 := get_eq (hD 16 132 (by simp [Region.binds]) (by kernel_rfl)) s132
                have g17 : T[17]? = some (.pointer (some ⟨w5.heap.size + 1, 0, none⟩)) := hF 17 (free_of (by kernel_rfl))
                refine ob_yes (wanted_yes rfl (by kernel_rfl) g132) ?_
                clear hF hD
                go_simp
                exact hK _ _ (Below.refl _ _) (rt_eq s136)
              refine obs_cons ?_ ?_
              · intro T wx K hB hF hD hK
                have g132 := get_eq (hD 16 132 (by simp [Region.binds]) (by kernel_rfl)) s132
                have g136 := get_eq (hD 20 136 (by simp [Region.binds]) (by kernel_rfl)) s136
                refine ob_yes (wanted_yes rfl (by kernel_rfl) g132) ?_
                clear hF hD
                have c0 := cell_call h0 hB
                go_simp
                exact hK _ _ (Below.refl _ _) (rt_eq s137)
              refine obs_cons ?_ ?_
              · intro T wx K hB hF hD hK
                have g132 := get_eq (hD 16 132 (by simp [Region.binds]) (by kernel_rfl)) s132
                have g16 : T[16]? = some (.pointer (some ⟨w5.heap.size, 0, none⟩)) := hF 16 (free_of (by kernel_rfl))
                refine ob_yes (wanted_yes rfl (by kernel_rfl) g132) ?_
                clear hF hD
                go_simp
                exact hK _ _ (Below.refl _ _) (rt_eq s138)
              refine obs_cons ?_ ?_
              · intro T wx K hB hF hD hK
                have g132 := get_eq (hD 16 132 (by simp [Region.binds]) (by kernel_rfl)) s132
                have g138 := get_eq (hD 22 138 (by simp [Region.binds]) (by kernel_rfl)) s138
                refine ob_yes (wanted_yes rfl (by kernel_rfl) g132) ?_
                clear hF hD
                have c0 := cell_call l0 hB
                go_simp
                exact hK _ _ (Below.refl _ _) (rt_eq s139)
              refine obs_cons ?_ ?_
              · intro T wx K hB hF hD hK
                have g132 := get_eq (hD 16 132 (by simp [Region.binds]) (by kernel_rfl)) s132
                have g137 := get_eq (hD 21 137 (by simp [Region.binds]) (by kernel_rfl)) s137
                have g139 := get_eq (hD 23 139 (by simp [Region.binds]) (by kernel_rfl)) s139
                refine ob_yes (wanted_yes rfl (by kernel_rfl) g132) ?_
                clear hF hD
                go_simp
                exact hK _ _ (Below.refl _ _) (rt_eq s140)
              refine obs_cons ?_ ?_
              · intro T wx K hB hF hD hK
                have g132 := get_eq (hD 16 132 (by simp [Region.binds]) (by kernel_rfl)) s132
                have g140 := get_eq (hD 24 140 (by simp [Region.binds]) (by kernel_rfl)) s140
                refine ob_yes (wanted_yes rfl (by kernel_rfl) g132) ?_
                clear hF hD
                go_simp
                exact hK _ _ (Below.refl _ _) (rt_eq s141)
              refine obs_cons ?_ ?_
              · intro T wx K hB hF hD hK
                have g132 := get_eq (hD 16 132 (by simp [Region.binds]) (by kernel_rfl)) s132
                have g141 := get_eq (hD 25 141 (by simp [Region.binds]) (by kernel_rfl)) s141
                refine ob_yes (wanted_yes rfl (by kernel_rfl) g132) ?_
                clear hF hD
                go_simp
                exact hK _ _ (Below.refl _ _) (rt_eq s142)
              refine obs_cons ?_ ?_
              · intro T wx K hB hF hD hK
                have g132 := get_eq (hD 16 132 (by simp [Region.binds]) (by kernel_rfl)) s132
                have g135 := get_eq (hD 19 135 (by simp [Region.binds]) (by kernel_rfl)) s135
                have g142 := get_eq (hD 26 142 (by simp [Region.binds]) (by kernel_rfl)) s142
                refine ob_yes (wanted_yes rfl (by kernel_rfl) g132) ?_
                clear hF hD
                go_simp
                exact hK _ _ (Below.refl _ _) (rt_eq s143)
              refine obs_cons ?_ ?_
              · intro T wx K hB hF hD hK
                have g128 := get_eq (hD 12 128 (by simp [Region.binds]) (by kernel_rfl)) s128
                have g132 := get_eq (hD 16 132 (by simp [Region.binds]) (by kernel_rfl)) s132
                have g143 := get_eq (hD 27 143 (by simp [Region.binds]) (by kernel_rfl)) s143
                refine ob_yes (wanted_yes rfl (by kernel_rfl) g128) ?_
                clear hF hD
                go_simp
                exact hK _ _ (Below.refl _ _) (rt_eq s144)
              refine obs_cons ?_ ?_
              · intro T wx K hB hF hD hK
                have g128 := get_eq (hD 12 128 (by simp [Region.binds]) (by kernel_rfl)) s128
                have g144 := get_eq (hD 28 144 (by simp [Region.binds]) (by kernel_rfl)) s144
                refine ob_yes (wanted_none rfl) ?_
                clear hF hD
                go_simp
                exact hK _ _ (Below.refl _ _) (rt_eq s145)
              refine obs_cons ?_ ?_
              · intro T wx K hB hF hD hK
                have g145 := get_eq (hD 29 145 (by simp [Region.binds]) (by kernel_rfl)) s145
                refine ob_yes (wanted_none rfl) ?_
                clear hF hD
                go_simp
                exact hK _ _ (Below.refl _ _) (rt_eq s4)
              exact obs_nil
            · intro T w' hb hF hs hD
              have g4 := get_eq (hD 30 4 (by kernel_rfl)) s4
              have fin := Lib.hid (hBx.trans (hb.mono hBx.size))
              clear hF hD hs hb
              go_wp2_with fail
              refine bodyPost_ret (v := .bool true) (by simp [results, Try.results4, go_sem, g4]) rfl ?_
              exact ⟨rfl, fin.out⟩

theorem walk {w : World} (ao : Option Addr) (lena capa : Nat) (l : List (Int × Int)) (hl : APts w ao lena l) (bo : Option Addr) (lenb capb : Nat) (m : List (Int × Int)) (hm : APts w bo lenb m) :
    Calls Try.prog 4 #[.slice ao lena capa, .slice bo lenb capb] w fun e w' => e = .returned (.bool true) ∧ Below w.heap.size w w' :=
  walk_all ao lena capa l bo lenb capb m w hl hm _ _ (Lib.hid rfl) (Lib.hid rfl) (fitL_len l) (fitL_len m) (fitL_inr l) (fitL_inr m) (Lib.hid (fit_yy l)) (Lib.hid (fit_yy m))

set_option maxRecDepth 100000 in
theorem lifted (os : Os) (started : os.Started) (H : Type) (enc : TypeId × Value → H) :
    ReturnsInHanded {} Try.checked os 4 .any (Rows.geomGapsSpec.pre6 enc Try.prog Try.f4 Rows.geomGapsRow.domain false) (Rows.geomGapsSpec.post enc Try.prog Try.f4 false true false false) := by
  refine returnsInHanded_of_change (C := Try.checked) own started (by kernel_rfl) Try.func4
    (ChangeSpec.witness6 (enc := enc) (C := Try.checked) false ⟨#[], #[.slice none 0 0, .slice none 0 0], []⟩ 8 (by kernel_rfl) (by kernel_rfl) (by kernel_rfl) (by kernel_rfl)) ?_
  intro W base args ds gs before hval0 hW hcnd _
  have hval : ∀ (j : Nat) t v, Try.f4.params[j]? = some t → args[j]? = some v → Value.okWide Try.prog W .any base t v := hval0
  have hW' := hW
  obtain ⟨p, q, hA0, hV, rfl, hfz, hnd⟩ := hW
  have hA : DataW.TrodAll enc Try.prog W 0 (fun _ => true) true Try.f4.params.toList args.toList ds p := hA0
  rw [Try.params4] at hA hval
  obtain ⟨v0, vs0, d0, ds0, p0, q0, hargs, rfl, rfl, h0, r0⟩ := trodAll_cons hA
  obtain ⟨v1, vs1, d1, ds1, p1, q1, rfl, rfl, rfl, h1, r1⟩ := trodAll_cons r0
  obtain ⟨rfl, rfl, rfl⟩ := trodAll_nil r1
  obtain rfl : args = #[v0, v1] := by cases args; simp_all
  obtain ⟨rfl, rfl⟩ := trodVars_none hV
  have k0 := h0
  have lt0 : ∀ x ∈ p0, x.block < W.heap.size := by obtain ⟨m, hm⟩ := k0; exact DataW.trod_lt m _ _ _ hm
  obtain ⟨a0, len0, cap0, l0, rfl, w0⟩ := open_pts (hval 0 22 v0 rfl rfl) h0
  have k1 := h1
  have lt1 : ∀ x ∈ p1, x.block < W.heap.size := by obtain ⟨m, hm⟩ := k1; exact DataW.trod_lt m _ _ _ hm
  obtain ⟨a1, len1, cap1, l1, rfl, w1⟩ := open_pts (hval 1 22 v1 rfl rfl) h1
  clear hA0 hval0
  refine (walk a0 len0 cap0 l0 w0 a1 len1 cap1 l1 w1).mono fun e W' ⟨he, bel⟩ => ?_
  subst he
  exact ⟨_, rfl, _, _, _, [], _, [], hW', trodAll_mk1 (shut_bool Try.underlying4 _), (trodAll_cons_mk (Below.trod laidOut (by kernel_rfl) (of_decide_eq_true (by kernel_rfl)) k0 bel lt0) (trodAll_cons_mk (Below.trod laidOut (by kernel_rfl) (of_decide_eq_true (by kernel_rfl)) k1 bel lt1) trodAll_mk0)), rfl, bel.frame _, fun h => by cases h⟩

/-- THE STATEMENT. -/
theorem holds : Rows.GeomGapsSaid :=
  OpenClaim.holds_of_wide 4 Try.f4 rfl rfl rfl rfl rfl rfl rfl ⟨rfl, rfl, rfl, rfl, rfl⟩ rfl rfl rfl rfl rfl (by kernel_rfl) Try.func4 (by kernel_rfl)
    (of_decide_eq_true (by kernel_rfl)) (by unfold Func.isWrapper; first | (rw [if_pos (by decide +kernel)]; kernel_rfl) | (rw [if_neg (by decide +kernel)]; exact ⟨rfl, rfl⟩))
    (fun os started H enc _ => lifted os started H enc)
#print axioms holds
end Go.Proofs.Ythmcejeeohlafaa.geomGaps
