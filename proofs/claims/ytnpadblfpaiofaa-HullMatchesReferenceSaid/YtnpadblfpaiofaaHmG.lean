/- Contract of the reference of layer 4: Parts, for valid polygons. -/
import Derived.Test.YtnpadblfpaiofaaHmF
import Derived.Test.YtnpadblfpaiofaaHmC
import Derived.Test.YtnpadblfpaiofaaHlN
import Derived.Test.YtnpadblfpaiofaaHlV
import Derived.Test.YtnpadblfpaiofaaHuG
import Derived.Test.YtnpadblfpaiofaaSwD
namespace Go.Proofs.Ytnpadblfpaiofaa
open Go.ChangeShapes Go.WideShapes Go.ChangeAt Go.RowKit
set_option linter.unusedVariables false
set_option linter.unusedSimpArgs false

/-- A row of points that no growing of the row of parts touches. -/
def RestAt (w : World) (base : Nat) (lo : Option Addr) (l : List (Int × Int)) : Prop := PRow w lo l ∧ ∃ b o, lo = some ⟨b, o, none⟩ ∧ (b < base ∨ ∃ cur, w.heap[b]? = some (.cells cur 35 (0, 0)))
theorem restAt_below {w w' : World} {base : Nat} {lo : Option Addr} {l : List (Int × Int)} (h : RestAt w base lo l) (hb : Below w.heap.size w w') : RestAt w' base lo l := by
  obtain ⟨hp, b, o, e, hc⟩ := h
  refine ⟨prow_below hp hb, b, o, e, ?_⟩
  rcases hc with h | ⟨c, h⟩
  · exact .inl h
  · exact .inr ⟨c, blk_call h hb⟩
theorem restAt_grown {w w' : World} {base : Nat} {lo : Option Addr} {l : List (Int × Int)} {row : Option Nat} (h : RestAt w base lo l) (hg : w.grownBy w' row) (hr : ∀ k, row = some k → base ≤ k ∧ ∃ cur, w.heap[k]? = some (.cells cur 23 (0, 0))) : RestAt w' base lo l := by
  obtain ⟨hp, b, o, rfl, hc⟩ := h
  have ne : some b ≠ row := fun e => by
    obtain ⟨k1, cur, k2⟩ := hr b e.symm
    rcases hc with h | ⟨c, h⟩
    · omega
    · rw [h] at k2; cases k2
  refine ⟨fun i hi => ?_, b, o, rfl, ?_⟩
  · obtain ⟨b', o', e, c1, c2⟩ := hp i hi
    obtain ⟨rfl, rfl⟩ : b = b' ∧ o = o' := by simpa using e
    have hlt : b < w.heap.size := World.block_lt_of_cell? w _ c1
    have hb := hg.block b hlt ne
    refine ⟨b, o, rfl, ?_, ?_⟩
    · rw [← c1]; unfold World.cell?; simp only [hb]
    · rw [← c2]; unfold World.cell?; simp only [hb]
  · rcases hc with h | ⟨c, h⟩
    · exact .inl h
    · exact .inr ⟨c, (hg.block b (blk_lt h) ne).trans h⟩
theorem parts_last {w w1 : World} {base lc : Nat} {lo : Option Addr} {v v' : Value} {pss : List (List (Int × Int))} {t : List (Int × Int)} {bs : List Nat} (h1 : bs.length = pss.length) (h2 : w.ownsRow base 23 1 v pss.length (bs.map trV))
    (h4 : ∀ i, i < pss.length → base ≤ bs.getD i 0 ∧ w.heap[bs.getD i 0]? = some (.cells (six (pss.getD i [])) 35 (0, 0)) ∧ (pss.getD i []).length = 3) (hr : RestAt w base lo t)
    (hg : w.grownBy w1 v.ownBlock) (hown : w1.ownsRow base 23 1 v' (pss.length + 1) (bs.map trV ++ [.slice lo t.length lc])) : ∃ bo c, v' = .slice bo (pss ++ [t]).length c ∧ PRows w1 bo (pss ++ [t]) := by
  have hr1 := restAt_grown hr hg fun k hk => own_blk h2 hk
  have other : ∀ (k : Nat) (o : Array Value), w.heap[k]? = some (.cells o 35 (0, 0)) → some k ≠ v.ownBlock := fun k o hk e => by
    obtain ⟨_, cur, hc⟩ := own_blk h2 e.symm
    rw [hk] at hc
    cases hc
  have h0 := hown
  rcases hown.2 with ⟨rfl, hn⟩ | ⟨g, cap, cur, rfl, k1, k2, k3, k4, k5, k6⟩
  · omega
  · refine ⟨_, cap, by rw [List.length_append]; rfl, fun i hi => ?_⟩
    rw [List.length_append] at hi
    simp only [List.length_cons, List.length_nil] at hi
    rw [getD_snoc]
    by_cases k : i < pss.length
    · rw [if_pos k]
      obtain ⟨a, b, c⟩ := h4 i k
      refine ⟨g, 0, some ⟨bs.getD i 0, 0, none⟩, 3, rfl, ?_, six_row ((hg.block _ (blk_lt b) (other _ _ b)).trans b) c⟩
      rw [Nat.zero_add, h0.cellAt i (by omega), List.getElem?_append_left (by simp; omega), List.getElem?_map, c]
      have : bs[i]? = some (bs.getD i 0) := by rw [List.getD_eq_getElem?_getD, List.getElem?_eq_getElem (by omega)]; rfl
      rw [this]
      rfl
    · have e : i = pss.length := by omega
      rw [if_neg k, if_pos e]
      refine ⟨g, 0, lo, lc, rfl, ?_, hr1.1⟩
      rw [Nat.zero_add, h0.cellAt i (by omega), List.getElem?_append_right (by simp; omega)]
      simp [h1, e]

def triS (base : Nat) (t : List (Int × Int)) : StP := ⟨fun v w => ∃ b, v = trV b ∧ base ≤ b ∧ w.heap[b]? = some (.cells (six t) 35 (0, 0)), fun _ _ _ ⟨b, h1, h2, h3⟩ hb => ⟨b, h1, h2, blk_call h3 hb⟩⟩
def triB (base : Nat) (t : List (Int × Int)) : StP := ⟨fun v w => ∃ b c, v = .slice (some ⟨c, 0, none⟩) 1 1 ∧ w.heap[c]? = some (.cells #[trV b] 23 (0, 0)) ∧ base ≤ b ∧ w.heap[b]? = some (.cells (six t) 35 (0, 0)), fun _ _ _ ⟨b, c, h1, h2, h3, h4⟩ hb => ⟨b, c, h1, blk_call h2 hb, h3, blk_call h4 hb⟩⟩
theorem own_restAt {w : World} {base0 base : Nat} {v : Value} {l : List (Int × Int)} {n : Nat} (hn : n = l.length) (h0 : 0 < n) (h : w.ownsRow base0 35 2 v n (flat l)) : ∃ lo c, v = .slice lo l.length c ∧ l.length ≤ c ∧ RestAt w base lo l := by
  subst hn
  obtain ⟨ao, c, he, hp⟩ := own_row h
  rcases h.2 with ⟨rfl, h1⟩ | ⟨g, cap, cur, rfl, k1, k2, k3, k4, k5, k6⟩
  · omega
  · cases he
    exact ⟨_, _, rfl, k3, hp, g, 0, rfl, .inr ⟨cur, k2⟩⟩

set_option maxRecDepth 100000 in
set_option maxHeartbeats 16000000 in
theorem parts4_is (ao : Option Addr) (n cap : Nat) (ps : List (Int × Int)) (us : List (List (Int × Int))) (w : World) (hn : ps.length = n) (hu : Hid (decL ps = us)) (hR : Hid (validP ps = true)) (hle : n ≤ 1000) (hcap : n ≤ cap) (hP : PRow w ao ps) (hV : AllV ps) :
    Calls Try.prog 20 #[.slice ao n cap] w fun e w' => (∃ bo c, e = .returned (.slice bo us.length c) ∧ PRows w' bo us) ∧ Below w.heap.size w w' := by
  subst hn
  have HP := Lib.hid hP
  have HV := Lib.hid hV
  obtain ⟨t, ht⟩ : ∃ t, convB ps = t := ⟨_, rfl⟩
  have HT := Lib.hid ht
  obtain ⟨i0, hi0, hz0, hz1', hz2⟩ := info_parts infoS
  obtain ⟨i1, hp0, hp1, hp2, hp3⟩ := info_parts infoP
  clear hP hV ht
  go_enter Try.func20, Try.ntmps20
  go_wp2_with fail
  refine (conv4_is ao _ cap ps t w rfl HT (by omega) HP.out HV.out).mono ?_
  rintro e w1 ⟨rfl, hb⟩
  have HB1 := Lib.hid hb
  have HP1 := Lib.hid (prow_below HP.out hb)
  have hsz := hb.size
  clear hb
  cases t with
  | true =>
    have E : Hid (us = [ps]) := Lib.hid (by rw [← hu.out]; unfold decL; rw [HT.out]; rfl)
    go_wp2_with fail
    go_ret
    refine ⟨⟨some ⟨w1.heap.size, 0, none⟩, 1, by rw [E.out]; rfl, ?_⟩, belA HB1.out _⟩
    rw [E.out]
    intro i hi
    obtain rfl : i = 0 := by simp at hi; omega
    exact ⟨_, _, ao, cap, rfl, cbx' _ _ _ _ 0 _ rfl rfl, prow_alloc HP1.out _⟩
  | false =>
    have HR1 : Hid (RestAt w1 w1.heap.size ao ps) := Lib.hid (by
      have h3 := (valid_parts hR.out).1
      obtain ⟨b, o, e, c1, c2⟩ := HP1.out 0 (by omega)
      exact ⟨HP1.out, b, o, e, .inl (World.block_lt_of_cell? w1 _ c1)⟩)
    have E : Hid (clipL ps = us) := Lib.hid (by rw [← hu.out]; unfold decL; rw [HT.out]; rfl)
    go_wp2_with fail
    go_loopw [4, 5] (fun s4 s5 wr => ∃ (rest : List (Int × Int)) (parts : List (List (Int × Int))) (lo : Option Addr) (lc : Nat), s5 = .slice lo rest.length lc ∧ RestAt wr w1.heap.size lo rest ∧ PartsAt wr w1.heap.size s4 parts ∧ Hid (clipF (rest.length + 1) rest parts = clipL ps) ∧ parts.length + rest.length = ps.length ∧ Hid (AllV rest) ∧ Below w.heap.size w wr ∧ w1.heap.size ≤ wr.heap.size ∧ Hid (3 ≤ rest.length) ∧ rest.length ≤ lc) (fun _ s5 _ => lenV s5)
    case atStart => exact ⟨ps, [], ao, cap, rfl, HR1.out, partsAt_nil _ _, Lib.hid rfl, by simp, HV, HB1.out, Nat.le_refl _, Lib.hid (valid_parts hR.out).1, hcap⟩
    case round =>
      obtain ⟨rest, parts, lo, lc, rfl, hP5, hPt, HCL, hlen, HV5, hB, hz, H35, hlc⟩ := hrel
      have P5 := Lib.hid hP5
      have PT := Lib.hid hPt
      have HB := Lib.hid hB
      clear hP5 hPt hB
      by_cases h3 : 3 < rest.length
      · have h3' : (3 : Int) < rest.length := by omega
        go_wp2_with fail
        go_loopw [6] (fun s6 wx => ∃ k : Nat, k ≤ rest.length ∧ s6 = .int .i64 k ∧ Hid (∀ j, j < k → earB rest j = false) ∧ Below wr.heap.size wr wx) (fun s6 _ => rest.length - (intOf s6).toNat)
        case atStart => exact ⟨0, Nat.zero_le _, rfl, Lib.hid (fun j hj => by omega), Below.refl _ _⟩
        case round =>
          obtain ⟨k, hk, rfl, HE, hBx⟩ := hrel
          by_cases hkl : k < rest.length
          · have hki : (k : Int) < rest.length := by omega
            obtain ⟨r, hr⟩ : ∃ r, earB rest k = r := ⟨_, rfl⟩
            have HR := Lib.hid hr
            have BX := Lib.hid hBx
            clear hr hBx
            go_wp2_with fail
            refine (ear4_is lo _ lc k rest r _ rfl HR hkl (by omega) (prow_below P5.out.1 BX.out) HV5.out).mono ?_
            rintro e w2 ⟨rfl, hb⟩
            replace BX := Lib.hid (belT BX.out hb)
            clear hb
            cases r with
            | false =>
              go_wp2_with fail
              go_roundw
              case rel => exact ⟨k + 1, by omega, by go_num, Lib.hid (fun m hm => by
                by_cases e : m = k
                · subst e; exact HR.out
                · exact HE.out m (by omega)), BX.out⟩
              case measure => simp [intOf]; omega
            | true =>
              have HF := Lib.hid (firstE_some hkl HE.out HR.out)
              have hkne : ¬ (k : Int) = rest.length := by omega
              obtain ⟨p, hp⟩ : ∃ p, pv rest.length k = p := ⟨_, rfl⟩
              obtain ⟨q, hq⟩ : ∃ q, nx rest.length k = q := ⟨_, rfl⟩
              have hpl : p < rest.length := by rw [← hp]; exact pv_lt (by omega)
              have hql : q < rest.length := by rw [← hq]; exact nx_lt (by omega)
              have R2 := Lib.hid (restAt_below P5.out BX.out)
              have PT2 := Lib.hid (partsAt_grown PT.out (grown_of_below BX.out) (fun k h => by cases h))
              have HB2 := Lib.hid (belT HB.out BX.out)
              have hzw2 : w1.heap.size ≤ w2.heap.size := by have := BX.out.size; omega
              obtain ⟨b, o, rfl, c1, c2⟩ := prow_at R2.out.1 hpl
              obtain ⟨b', o', ho', c3, c4⟩ := prow_at R2.out.1 hkl
              obtain ⟨rfl, rfl⟩ : b = b' ∧ o = o' := by simpa using ho'
              clear ho'
              obtain ⟨b', o', ho', c5, c6⟩ := prow_at R2.out.1 hql
              obtain ⟨rfl, rfl⟩ : b = b' ∧ o = o' := by simpa using ho'
              clear ho'
              have E : Hid (six (triP rest k) = #[.int .i64 (cx rest p), .int .i64 (cy rest p), .int .i64 (cx rest k), .int .i64 (cy rest k), .int .i64 (cx rest q), .int .i64 (cy rest q)]) := Lib.hid (by unfold triP; rw [hp, hq]; rfl)
              have hN0 : (rest.length : Int) ≠ 0 := by omega
              have hN1 : ¬ rest = [] := fun e => by rw [e] at h3; simp at h3
              have hN2 : ¬ rest.length = 0 := by omega
              have ht1 : ((k : Int) + (rest.length : Int) - 1).tmod (rest.length : Int) = (p : Int) := by rw [← hp, Int.tmod_eq_emod_of_nonneg (by omega)]; unfold pv; push_cast; rw [Int.natCast_sub (by omega)]; simp
              have ht2 : ((k : Int) + 1).tmod (rest.length : Int) = (q : Int) := by rw [← hq, Int.tmod_eq_emod_of_nonneg (by omega)]; unfold nx; simp
              have hw1 : IntKind.i64.wrap ((k : Int) + (rest.length : Int)) = (k : Int) + (rest.length : Int) := wrap_k _ (by omega)
              have hw2 : IntKind.i64.wrap ((k : Int) + (rest.length : Int) - 1) = (k : Int) + (rest.length : Int) - 1 := wrap_k _ (by omega)
              have hw3 : IntKind.i64.wrap ((k : Int) + 1) = (k : Int) + 1 := wrap_k _ (by omega)
              have hw4 : IntKind.i64.wrap (p : Int) = (p : Int) := wrap_k _ (by omega)
              have hw5 : IntKind.i64.wrap (q : Int) = (q : Int) := wrap_k _ (by omega)
              have hpi : (p : Int) < rest.length := by omega
              have hqi : (q : Int) < rest.length := by omega
              clear hp hq
              go_upto_region 15 with fail
              obtain ⟨sp, hsp⟩ : ∃ sp : ToldS, sp = [none, none, none, none, none, none, none, none, none, none, none, none, none, none, none, none, none, none, none, none, none, none, none, none, none, none, none, none, none, none, none, none, none, none, none, some (eqS (u4)), some (eqS (.slice (some ⟨b, o, none⟩) rest.length lc)), some (eqS (.int .i64 (k : Int))), some (eqS (.int .i64 (rest.length : Int))), some (eqS (.int .i64 ((k : Int) + (rest.length : Int)))), some (eqS (.int .i64 ((k : Int) + (rest.length : Int) - 1))), some (eqS (.int .i64 (rest.length : Int))), some (eqS (.int .i64 (p : Int))), some (eqS (.pointer (some ⟨b, o + p * 2, none⟩))), some (eqS (.agg #[.int .i64 (cx rest p), .int .i64 (cy rest p)])), some (eqS (.slice (some ⟨b, o, none⟩) rest.length lc)), some (eqS (.int .i64 (k : Int))), some (eqS (.pointer (some ⟨b, o + k * 2, none⟩))), some (eqS (.agg #[.int .i64 (cx rest k), .int .i64 (cy rest k)])), some (eqS (.slice (some ⟨b, o, none⟩) rest.length lc)), some (eqS (.int .i64 (k : Int))), some (eqS (.int .i64 ((k : Int) + 1))), some (eqS (.int .i64 (rest.length : Int))), some (eqS (.int .i64 (q : Int))), some (eqS (.pointer (some ⟨b, o + q * 2, none⟩))), some (eqS (.agg #[.int .i64 (cx rest q), .int .i64 (cy rest q)])), some (triS w1.heap.size (triP rest k)), some (triB w1.heap.size (triP rest k))] := ⟨_, rfl⟩
              have s35 : sp.getD 35 none = some (eqS (u4)) := by rw [hsp]; rfl
              have s36 : sp.getD 36 none = some (eqS (.slice (some ⟨b, o, none⟩) rest.length lc)) := by rw [hsp]; rfl
              have s37 : sp.getD 37 none = some (eqS (.int .i64 (k : Int))) := by rw [hsp]; rfl
              have s38 : sp.getD 38 none = some (eqS (.int .i64 (rest.length : Int))) := by rw [hsp]; rfl
              have s39 : sp.getD 39 none = some (eqS (.int .i64 ((k : Int) + (rest.length : Int)))) := by rw [hsp]; rfl
              have s40 : sp.getD 40 none = some (eqS (.int .i64 ((k : Int) + (rest.length : Int) - 1))) := by rw [hsp]; rfl
              have s41 : sp.getD 41 none = some (eqS (.int .i64 (rest.length : Int))) := by rw [hsp]; rfl
              have s42 : sp.getD 42 none = some (eqS (.int .i64 (p : Int))) := by rw [hsp]; rfl
              have s43 : sp.getD 43 none = some (eqS (.pointer (some ⟨b, o + p * 2, none⟩))) := by rw [hsp]; rfl
              have s44 : sp.getD 44 none = some (eqS (.agg #[.int .i64 (cx rest p), .int .i64 (cy rest p)])) := by rw [hsp]; rfl
              have s45 : sp.getD 45 none = some (eqS (.slice (some ⟨b, o, none⟩) rest.length lc)) := by rw [hsp]; rfl
              have s46 : sp.getD 46 none = some (eqS (.int .i64 (k : Int))) := by rw [hsp]; rfl
              have s47 : sp.getD 47 none = some (eqS (.pointer (some ⟨b, o + k * 2, none⟩))) := by rw [hsp]; rfl
              have s48 : sp.getD 48 none = some (eqS (.agg #[.int .i64 (cx rest k), .int .i64 (cy rest k)])) := by rw [hsp]; rfl
              have s49 : sp.getD 49 none = some (eqS (.slice (some ⟨b, o, none⟩) rest.length lc)) := by rw [hsp]; rfl
              have s50 : sp.getD 50 none = some (eqS (.int .i64 (k : Int))) := by rw [hsp]; rfl
              have s51 : sp.getD 51 none = some (eqS (.int .i64 ((k : Int) + 1))) := by rw [hsp]; rfl
              have s52 : sp.getD 52 none = some (eqS (.int .i64 (rest.length : Int))) := by rw [hsp]; rfl
              have s53 : sp.getD 53 none = some (eqS (.int .i64 (q : Int))) := by rw [hsp]; rfl
              have s54 : sp.getD 54 none = some (eqS (.pointer (some ⟨b, o + q * 2, none⟩))) := by rw [hsp]; rfl
              have s55 : sp.getD 55 none = some (eqS (.agg #[.int .i64 (cx rest q), .int .i64 (cy rest q)])) := by rw [hsp]; rfl
              have s56 : sp.getD 56 none = some (triS w1.heap.size (triP rest k)) := by rw [hsp]; rfl
              have s57 : sp.getD 57 none = some (triB w1.heap.size (triP rest k)) := by rw [hsp]; rfl
              clear hsp
              refine (wpIn_wide (n := 0)).1 (region_headR (RtS sp) (rtS_keep sp) 23 rfl rfl rfl (by kernel_rfl) (by decide) (by kernel_rfl) (by kernel_rfl) (by kernel_rfl) ?_ ?_)
              · intro Q'; show ObsR _ _ _ _ _ _ _ _ (List.take _ _); simp only [List.take_succ_cons, List.take_zero]
                refine obsR_cons ?_ ?_
                · intro T wx K hB hF hD hK
                  have g4 : T[4]? = some (u4) := hF 4 (freeM_of (by kernel_rfl))
                  refine ob_yes (wanted_none rfl) ?_
                  clear hF hD
                  go_simp
                  exact hK _ _ (Below.refl _ _) (rt_eqS s35)
                refine obsR_cons ?_ ?_
                · intro T wx K hB hF hD hK
                  have g5 : T[5]? = some (.slice (some ⟨b, o, none⟩) rest.length lc) := hF 5 (freeM_of (by kernel_rfl))
                  refine ob_yes (wanted_none rfl) ?_
                  clear hF hD
                  go_simp
                  exact hK _ _ (Below.refl _ _) (rt_eqS s36)
                refine obsR_cons ?_ ?_
                · intro T wx K hB hF hD hK
                  have g6 : T[6]? = some (.int .i64 (k : Int)) := hF 6 (freeM_of (by kernel_rfl))
                  refine ob_yes (wanted_none rfl) ?_
                  clear hF hD
                  go_simp
                  exact hK _ _ (Below.refl _ _) (rt_eqS s37)
                refine obsR_cons ?_ ?_
                · intro T wx K hB hF hD hK
                  have g8 : T[8]? = some (.int .i64 (rest.length : Int)) := hF 8 (freeM_of (by kernel_rfl))
                  refine ob_yes (wanted_none rfl) ?_
                  clear hF hD
                  go_simp
                  exact hK _ _ (Below.refl _ _) (rt_eqS s38)
                refine obsR_cons ?_ ?_
                · intro T wx K hB hF hD hK
                  have g37 := get_eqS (hD 2 37 (by simp [Region.binds]) (by kernel_rfl)) s37
                  have g38 := get_eqS (hD 3 38 (by simp [Region.binds]) (by kernel_rfl)) s38
                  refine ob_yes (wanted_none rfl) ?_
                  clear hF hD
                  go_simp
                  exact hK _ _ (Below.refl _ _) (rt_eqS s39)
                refine obsR_cons ?_ ?_
                · intro T wx K hB hF hD hK
                  have g39 := get_eqS (hD 4 39 (by simp [Region.binds]) (by kernel_rfl)) s39
                  refine ob_yes (wanted_none rfl) ?_
                  clear hF hD
                  go_simp
                  exact hK _ _ (Below.refl _ _) (rt_eqS s40)
                refine obsR_cons ?_ ?_
                · intro T wx K hB hF hD hK
                  have g8 : T[8]? = some (.int .i64 (rest.length : Int)) := hF 8 (freeM_of (by kernel_rfl))
                  refine ob_yes (wanted_none rfl) ?_
                  clear hF hD
                  go_simp
                  exact hK _ _ (Below.refl _ _) (rt_eqS s41)
                refine obsR_cons ?_ ?_
                · intro T wx K hB hF hD hK
                  have g40 := get_eqS (hD 5 40 (by simp [Region.binds]) (by kernel_rfl)) s40
                  have g41 := get_eqS (hD 6 41 (by simp [Region.binds]) (by kernel_rfl)) s41
                  refine ob_yes (wanted_none rfl) ?_
                  clear hF hD
                  go_simp
                  exact hK _ _ (Below.refl _ _) (rt_eqS s42)
                refine obsR_cons ?_ ?_
                · intro T wx K hB hF hD hK
                  have g36 := get_eqS (hD 1 36 (by simp [Region.binds]) (by kernel_rfl)) s36
                  have g42 := get_eqS (hD 7 42 (by simp [Region.binds]) (by kernel_rfl)) s42
                  refine ob_yes (wanted_none rfl) ?_
                  clear hF hD
                  go_simp
                  exact hK _ _ (Below.refl _ _) (rt_eqS s43)
                refine obsR_cons ?_ ?_
                · intro T wx K hB hF hD hK
                  have g43 := get_eqS (hD 8 43 (by simp [Region.binds]) (by kernel_rfl)) s43
                  refine ob_yes (wanted_none rfl) ?_
                  clear hF hD
                  have c1' := cell_call c1 hB
                  have c2' := cell_call c2 hB
                  go_simp
                  exact hK _ _ (Below.refl _ _) (rt_eqS s44)
                refine obsR_cons ?_ ?_
                · intro T wx K hB hF hD hK
                  have g5 : T[5]? = some (.slice (some ⟨b, o, none⟩) rest.length lc) := hF 5 (freeM_of (by kernel_rfl))
                  refine ob_yes (wanted_none rfl) ?_
                  clear hF hD
                  go_simp
                  exact hK _ _ (Below.refl _ _) (rt_eqS s45)
                refine obsR_cons ?_ ?_
                · intro T wx K hB hF hD hK
                  have g6 : T[6]? = some (.int .i64 (k : Int)) := hF 6 (freeM_of (by kernel_rfl))
                  refine ob_yes (wanted_none rfl) ?_
                  clear hF hD
                  go_simp
                  exact hK _ _ (Below.refl _ _) (rt_eqS s46)
                refine obsR_cons ?_ ?_
                · intro T wx K hB hF hD hK
                  have g45 := get_eqS (hD 10 45 (by simp [Region.binds]) (by kernel_rfl)) s45
                  have g46 := get_eqS (hD 11 46 (by simp [Region.binds]) (by kernel_rfl)) s46
                  refine ob_yes (wanted_none rfl) ?_
                  clear hF hD
                  go_simp
                  exact hK _ _ (Below.refl _ _) (rt_eqS s47)
                refine obsR_cons ?_ ?_
                · intro T wx K hB hF hD hK
                  have g47 := get_eqS (hD 12 47 (by simp [Region.binds]) (by kernel_rfl)) s47
                  refine ob_yes (wanted_none rfl) ?_
                  clear hF hD
                  have c3' := cell_call c3 hB
                  have c4' := cell_call c4 hB
                  go_simp
                  exact hK _ _ (Below.refl _ _) (rt_eqS s48)
                refine obsR_cons ?_ ?_
                · intro T wx K hB hF hD hK
                  have g5 : T[5]? = some (.slice (some ⟨b, o, none⟩) rest.length lc) := hF 5 (freeM_of (by kernel_rfl))
                  refine ob_yes (wanted_none rfl) ?_
                  clear hF hD
                  go_simp
                  exact hK _ _ (Below.refl _ _) (rt_eqS s49)
                refine obsR_cons ?_ ?_
                · intro T wx K hB hF hD hK
                  have g6 : T[6]? = some (.int .i64 (k : Int)) := hF 6 (freeM_of (by kernel_rfl))
                  refine ob_yes (wanted_none rfl) ?_
                  clear hF hD
                  go_simp
                  exact hK _ _ (Below.refl _ _) (rt_eqS s50)
                refine obsR_cons ?_ ?_
                · intro T wx K hB hF hD hK
                  have g50 := get_eqS (hD 15 50 (by simp [Region.binds]) (by kernel_rfl)) s50
                  refine ob_yes (wanted_none rfl) ?_
                  clear hF hD
                  go_simp
                  exact hK _ _ (Below.refl _ _) (rt_eqS s51)
                refine obsR_cons ?_ ?_
                · intro T wx K hB hF hD hK
                  have g8 : T[8]? = some (.int .i64 (rest.length : Int)) := hF 8 (freeM_of (by kernel_rfl))
                  refine ob_yes (wanted_none rfl) ?_
                  clear hF hD
                  go_simp
                  exact hK _ _ (Below.refl _ _) (rt_eqS s52)
                refine obsR_cons ?_ ?_
                · intro T wx K hB hF hD hK
                  have g51 := get_eqS (hD 16 51 (by simp [Region.binds]) (by kernel_rfl)) s51
                  have g52 := get_eqS (hD 17 52 (by simp [Region.binds]) (by kernel_rfl)) s52
                  refine ob_yes (wanted_none rfl) ?_
                  clear hF hD
                  go_simp
                  exact hK _ _ (Below.refl _ _) (rt_eqS s53)
                refine obsR_cons ?_ ?_
                · intro T wx K hB hF hD hK
                  have g49 := get_eqS (hD 14 49 (by simp [Region.binds]) (by kernel_rfl)) s49
                  have g53 := get_eqS (hD 18 53 (by simp [Region.binds]) (by kernel_rfl)) s53
                  refine ob_yes (wanted_none rfl) ?_
                  clear hF hD
                  go_simp
                  exact hK _ _ (Below.refl _ _) (rt_eqS s54)
                refine obsR_cons ?_ ?_
                · intro T wx K hB hF hD hK
                  have g54 := get_eqS (hD 19 54 (by simp [Region.binds]) (by kernel_rfl)) s54
                  refine ob_yes (wanted_none rfl) ?_
                  clear hF hD
                  have c5' := cell_call c5 hB
                  have c6' := cell_call c6 hB
                  go_simp
                  exact hK _ _ (Below.refl _ _) (rt_eqS s55)
                refine obsR_cons ?_ ?_
                · intro T wx K hB hF hD hK
                  have g44 := get_eqS (hD 9 44 (by simp [Region.binds]) (by kernel_rfl)) s44
                  have g48 := get_eqS (hD 13 48 (by simp [Region.binds]) (by kernel_rfl)) s48
                  have g55 := get_eqS (hD 20 55 (by simp [Region.binds]) (by kernel_rfl)) s55
                  refine ob_yes (wanted_none rfl) ?_
                  clear hF hD
                  have hsz := hB.size
                  go_simp
                  exact hK _ _ (belA (Below.refl _ _) _) (rt_S s56 ⟨_, rfl, by omega, by rw [E.out]; exact blk_new _ _ _ rfl⟩)
                refine obsR_cons ?_ ?_
                · intro T wx K hB hF hD hK
                  obtain ⟨v56, g56, p56⟩ := getS (hD 21 56 (by simp [Region.binds]) (by kernel_rfl)) s56
                  refine ob_yes (wanted_none rfl) ?_
                  clear hF hD
                  obtain ⟨b1, rfl, hb1, hbl1⟩ := p56
                  go_simp
                  exact hK _ _ (belA (Below.refl _ _) _) (rt_S s57 ⟨_, _, rfl, blk_new _ _ _ rfl, hb1, blk_alloc hbl1 _⟩)
                exact obsR_nil
              · intro T w8 hb hF hs hD
                have g35 := get_eqS (hD 0 35 (by decide) (by kernel_rfl)) s35
                have g36 := get_eqS (hD 1 36 (by decide) (by kernel_rfl)) s36
                have g37 := get_eqS (hD 2 37 (by decide) (by kernel_rfl)) s37
                have g38 := get_eqS (hD 3 38 (by decide) (by kernel_rfl)) s38
                have g39 := get_eqS (hD 4 39 (by decide) (by kernel_rfl)) s39
                have g40 := get_eqS (hD 5 40 (by decide) (by kernel_rfl)) s40
                have g41 := get_eqS (hD 6 41 (by decide) (by kernel_rfl)) s41
                have g42 := get_eqS (hD 7 42 (by decide) (by kernel_rfl)) s42
                have g43 := get_eqS (hD 8 43 (by decide) (by kernel_rfl)) s43
                have g44 := get_eqS (hD 9 44 (by decide) (by kernel_rfl)) s44
                have g45 := get_eqS (hD 10 45 (by decide) (by kernel_rfl)) s45
                have g46 := get_eqS (hD 11 46 (by decide) (by kernel_rfl)) s46
                have g47 := get_eqS (hD 12 47 (by decide) (by kernel_rfl)) s47
                have g48 := get_eqS (hD 13 48 (by decide) (by kernel_rfl)) s48
                have g49 := get_eqS (hD 14 49 (by decide) (by kernel_rfl)) s49
                have g50 := get_eqS (hD 15 50 (by decide) (by kernel_rfl)) s50
                have g51 := get_eqS (hD 16 51 (by decide) (by kernel_rfl)) s51
                have g52 := get_eqS (hD 17 52 (by decide) (by kernel_rfl)) s52
                have g53 := get_eqS (hD 18 53 (by decide) (by kernel_rfl)) s53
                have g54 := get_eqS (hD 19 54 (by decide) (by kernel_rfl)) s54
                have g55 := get_eqS (hD 20 55 (by decide) (by kernel_rfl)) s55
                obtain ⟨v56, g56, p56⟩ := getS (hD 21 56 (by decide) (by kernel_rfl)) s56
                obtain ⟨v57, g57, p57⟩ := getS (hD 22 57 (by decide) (by kernel_rfl)) s57
                have hT := conc [(35, u4), (36, .slice (some ⟨b, o, none⟩) rest.length lc), (37, .int .i64 (k : Int)), (38, .int .i64 (rest.length : Int)), (39, .int .i64 ((k : Int) + (rest.length : Int))), (40, .int .i64 ((k : Int) + (rest.length : Int) - 1)), (41, .int .i64 (rest.length : Int)), (42, .int .i64 (p : Int)), (43, .pointer (some ⟨b, o + p * 2, none⟩)), (44, .agg #[.int .i64 (cx rest p), .int .i64 (cy rest p)]), (45, .slice (some ⟨b, o, none⟩) rest.length lc), (46, .int .i64 (k : Int)), (47, .pointer (some ⟨b, o + k * 2, none⟩)), (48, .agg #[.int .i64 (cx rest k), .int .i64 (cy rest k)]), (49, .slice (some ⟨b, o, none⟩) rest.length lc), (50, .int .i64 (k : Int)), (51, .int .i64 ((k : Int) + 1)), (52, .int .i64 (rest.length : Int)), (53, .int .i64 (q : Int)), (54, .pointer (some ⟨b, o + q * 2, none⟩)), (55, .agg #[.int .i64 (cx rest q), .int .i64 (cy rest q)]), (56, v56), (57, v57)] hs hF (by simp only [List.forall_mem_cons]; exact ⟨g35, g36, g37, g38, g39, g40, g41, g42, g43, g44, g45, g46, g47, g48, g49, g50, g51, g52, g53, g54, g55, g56, g57, fun p hp => absurd hp List.not_mem_nil⟩) (by kernel_rfl)
                simp only [List.foldl, List.setIfInBounds_toArray, List.set_cons_succ, List.set_cons_zero] at hT
                subst hT
                clear hF hD hs g35 g36 g37 g38 g39 g40 g41 g42 g43 g44 g45 g46 g47 g48 g49 g50 g51 g52 g53 g54 g55 g56 g57 s35 s36 s37 s38 s39 s40 s41 s42 s43 s44 s45 s46 s47 s48 s49 s50 s51 s52 s53 s54 s55 s56 s57
                show wpOpsIn _ _ _ _ _ [23, 24] _ _
                have hs8 := hb.size
                obtain ⟨b1, c1', rfl, hc1, hb1, hbl1⟩ := p57
                have R8 := Lib.hid (restAt_below R2.out hb)
                have PT8 := Lib.hid (partsAt_grown PT2.out (grown_of_below hb) (fun k h => by cases h))
                have HB8 := Lib.hid (belT HB2.out hb)
                clear hb c1 c2 c3 c4 c5 c6 p56
                obtain ⟨bs, hbs1, hbs2, hbs3⟩ := PT8.out
                have HOW := Lib.hid hbs2
                refine tail_append rfl rfl rfl rfl rfl (.tmp 35) (.tmp 57) 31 rfl w1.heap.size 23 i0 (.slice none 0 0) 1 24 Try.underlying31 hi0 hz0 hz1' hz2 rfl (by decide) _ _ _ rfl hbs2 ⟨c1', 0, none⟩ 1 1 [trV b1] rfl rfl (fun j u hj => by
                  match j, hj with
                  | 0, hj => simp at hj; subst hj; exact blk_cell hc1 0 _ rfl) (by intro u hu; simp at hu; subst hu; rfl) (by decide) (by unfold maxLen; omega) (by omega) (by omega) ?_
                intro g' cap' w9 hown' hgrow hat hlt
                have P9 := Lib.hid (partsAt_snoc hbs1 hbs2 hbs3 hb1 hbl1 (show (triP rest k).length = 3 from rfl) hgrow hown')
                have R9 := Lib.hid (restAt_grown R8.out hgrow (fun k hk => own_blk HOW.out hk))
                have HB9 := Lib.hid (HB8.out.grown hgrow (by have := HB8.out.size; omega) (fun k hk => by have := (own_blk HOW.out hk).1; have := HB1.out.size; omega))
                have hz9 : w8.heap.size ≤ w9.heap.size := hgrow.size
                clear hown' hgrow hat hbs1 hbs2 hbs3 hc1 hb1 hbl1 HOW R8 PT8 HB8
                generalize (Value.slice (some ⟨g', 0, none⟩) (parts.length + 1) cap') = pv9 at *
                simp only [wpOpsIn]
                go_simp
                have hown0 : w9.ownsRow w9.heap.size 35 2 (.slice none 0 0) 0 [] := ⟨rfl, .inl ⟨rfl, rfl⟩⟩
                have hkc : (k : Int) ≤ (lc : Int) := by omega
                have hkc' : k ≤ lc := by omega
                have hk0 : (0 : Int) ≤ (k : Int) := by omega
                have hk1 : (0 : Int) ≤ (k : Int) + 1 := by omega
                have hk2 : (k : Int) + 1 ≤ (rest.length : Int) := by omega
                have hk3 : (rest.length : Int) ≤ (lc : Int) := by omega
                have hk4 : ((k : Int) + 1).toNat = k + 1 := by omega
                have lt1 : (rest.take k).length = k := by rw [List.length_take, Nat.min_eq_left (by omega)]
                have L1 := Lib.hid lt1
                clear lt1
                go_wp2_with (at_builtin; refine wpList_append_own _ rfl _ _ 23 rfl w9.heap.size 35 i1 (.agg #[.int .i64 0, .int .i64 0]) 2 16 Try.underlying23 hp0 hp1 hp2 hp3 rfl (by decide) _ _ _ rfl hown0 ⟨b, o, none⟩ k lc (flat (rest.take k)) rfl (by rw [flat_len, L1.out]) (prow_flat (prow_take R9.out.1 k)) (flat_one _) (by unfold maxLen; omega) (by omega) (Nat.le_refl _) ?_)
                intro v10 w10 hown1 hg1 _
                have HBz := Lib.hid ((Below.refl w9.heap.size w9).grown hg1 (Nat.le_refl _) (fun k h => by cases h))
                have R10 := Lib.hid (restAt_below R9.out HBz.out)
                clear hg1 hown0
                have z10 := HBz.out.size
                have el : (rest.eraseIdx k).length = rest.length - 1 := List.length_eraseIdx_of_lt hkl
                have EL := Lib.hid el
                have EF : Hid (flat (rest.take k) ++ flat (rest.drop (k + 1)) = flat (rest.eraseIdx k)) := Lib.hid (by rw [← flat_app, ← List.eraseIdx_eq_take_drop_succ])
                clear el
                by_cases hcz : lc = k + 1
                · have hcy : lc - (k + 1) = 0 := by omega
                  have H10 := Lib.hid hown1
                  go_wp2_with (at_builtin; refine wpList_append_row rfl _ _ 23 rfl w9.heap.size i1 (.agg #[.int .i64 0, .int .i64 0]) Try.underlying23 hp0 hp1 hp2 hp3 rfl _ _ _ rfl hown1 _ _ _ (rest.drop (k + 1)) rfl ?e11 ?e12 ?e13 ?e14 ?_)
                  try case e11 => simp [List.length_drop]; try omega
                  try case e12 => first | exact prow_drop R10.out.1 (k + 1) | exact (fun i hi => absurd hi (by rw [List.length_drop]; omega))
                  try case e13 => omega
                  try case e14 => omega
                  intro v11 w11 hown2 hg2
                  have HBy := Lib.hid (HBz.out.grown hg2 z10 (fun g hg => (H10.out.lt g hg).1))
                  have P11 := Lib.hid (partsAt_grown P9.out (grown_of_below HBy.out) (fun k h => by cases h))
                  have HB11 := Lib.hid (belT HB9.out HBy.out)
                  have hz11 := HBy.out.size
                  have OW := Lib.hid (own_restAt (base := w1.heap.size) (l := rest.eraseIdx k) (n := k + (rest.length - (k + 1))) (by have := EL.out; omega) (by omega) (by rw [← EF.out]; simpa using hown2))
                  clear hown2 hg2 hown1
                  obtain ⟨lo2, lc2, rfl, hlc2, R11⟩ := OW.out
                  have RR := Lib.hid R11
                  have HL2 := Lib.hid hlc2
                  clear OW R11 hlc2
                  go_wp2
                  go_roundw
                  case rel =>
                    refine ⟨rest.eraseIdx k, parts ++ [triP rest k], lo2, lc2, rfl, RR.out, P11.out, ?_, ?_, Lib.hid (erase_allV HV5.out k), HB11.out, by omega, ?_, HL2.out⟩
                    · refine Lib.hid ?_
                      rw [← HCL.out, EL.out]
                      show clipF (rest.length - 1 + 1) _ _ = (if 3 < rest.length then (match firstE rest with | none => [] | some e => clipF rest.length (rest.eraseIdx e) (parts ++ [triP rest e])) else if rest.length < 3 then [] else parts ++ [triP rest 1])
                      rw [if_pos h3, HF.out, show rest.length - 1 + 1 = rest.length by omega]
                    · rw [EL.out, List.length_append]; simp; omega
                    · exact Lib.hid (by rw [EL.out]; omega)
                  case measure => simp [lenV, EL.out]; omega
                · have hcy : ¬ lc - (k + 1) = 0 := by omega
                  have H10 := Lib.hid hown1
                  go_wp2_with (at_builtin; refine wpList_append_row rfl _ _ 23 rfl w9.heap.size i1 (.agg #[.int .i64 0, .int .i64 0]) Try.underlying23 hp0 hp1 hp2 hp3 rfl _ _ _ rfl hown1 _ _ _ (rest.drop (k + 1)) rfl ?e21 ?e22 ?e23 ?e24 ?_)
                  try case e21 => simp [List.length_drop]; try omega
                  try case e22 => first | exact prow_drop R10.out.1 (k + 1) | exact (fun i hi => absurd hi (by rw [List.length_drop]; omega))
                  try case e23 => omega
                  try case e24 => omega
                  intro v11 w11 hown2 hg2
                  have HBy := Lib.hid (HBz.out.grown hg2 z10 (fun g hg => (H10.out.lt g hg).1))
                  have P11 := Lib.hid (partsAt_grown P9.out (grown_of_below HBy.out) (fun k h => by cases h))
                  have HB11 := Lib.hid (belT HB9.out HBy.out)
                  have hz11 := HBy.out.size
                  have OW := Lib.hid (own_restAt (base := w1.heap.size) (l := rest.eraseIdx k) (n := k + (rest.length - (k + 1))) (by have := EL.out; omega) (by omega) (by rw [← EF.out]; simpa using hown2))
                  clear hown2 hg2 hown1
                  obtain ⟨lo2, lc2, rfl, hlc2, R11⟩ := OW.out
                  have RR := Lib.hid R11
                  have HL2 := Lib.hid hlc2
                  clear OW R11 hlc2
                  go_wp2
                  go_roundw
                  case rel =>
                    refine ⟨rest.eraseIdx k, parts ++ [triP rest k], lo2, lc2, rfl, RR.out, P11.out, ?_, ?_, Lib.hid (erase_allV HV5.out k), HB11.out, by omega, ?_, HL2.out⟩
                    · refine Lib.hid ?_
                      rw [← HCL.out, EL.out]
                      show clipF (rest.length - 1 + 1) _ _ = (if 3 < rest.length then (match firstE rest with | none => [] | some e => clipF rest.length (rest.eraseIdx e) (parts ++ [triP rest e])) else if rest.length < 3 then [] else parts ++ [triP rest 1])
                      rw [if_pos h3, HF.out, show rest.length - 1 + 1 = rest.length by omega]
                    · rw [EL.out, List.length_append]; simp; omega
                    · exact Lib.hid (by rw [EL.out]; omega)
                  case measure => simp [lenV, EL.out]; omega
          · obtain rfl : k = rest.length := by omega
            have EN : Hid (us = []) := Lib.hid (by
              rw [← E.out, ← HCL.out]
              show (if 3 < rest.length then (match firstE rest with | none => [] | some e => clipF rest.length (rest.eraseIdx e) (parts ++ [triP rest e])) else if rest.length < 3 then [] else parts ++ [triP rest 1]) = []
              rw [if_pos h3, firstE_none HE.out])
            have BX := Lib.hid hBx
            clear hBx HE
            go_wp2_with fail
            go_ret
            exact ⟨⟨none, 0, by rw [EN.out]; rfl, by rw [EN.out]; exact fun i hi => absurd hi (by simp)⟩, belT HB.out BX.out⟩
      · have h3' : ¬ (3 : Int) < rest.length := by omega
        have h33 : rest.length = 3 := by have := H35.out; omega
        have EF : Hid (us = parts ++ [rest]) := Lib.hid (by
          rw [← E.out, ← HCL.out]
          show (if 3 < rest.length then (match firstE rest with | none => [] | some e => clipF rest.length (rest.eraseIdx e) (parts ++ [triP rest e])) else if rest.length < 3 then [] else parts ++ [triP rest 1]) = _
          rw [if_neg h3, if_neg (by omega)]
          match rest, h33 with
          | [x, y, z], _ =>
            rw [show triP [x, y, z] 1 = [x, y, z] by unfold triP; rw [show pv [x, y, z].length 1 = 0 by show pv 3 1 = 0; decide, show nx [x, y, z].length 1 = 2 by show nx 3 1 = 2; decide]; rfl])
        have H33 := Lib.hid h33
        rw [h33]
        rw [h33] at hlen
        clear h3 h3' h33
        obtain ⟨ob, hob⟩ : ∃ ob, Obj.cells #[.slice lo 3 lc] 23 = ob := ⟨_, rfl⟩
        obtain ⟨bs, hbs1, hbs2, hbs3⟩ := partsAt_grown PT.out (World.grownBy_alloc wr ob none) (fun k h => by cases h)
        have EBS := Lib.hid (And.intro hbs1 hbs3)
        have HOW := Lib.hid hbs2
        have P6 := Lib.hid (restAt_below P5.out (belA (Below.refl _ wr) ob))
        subst hob
        clear hbs1 hbs3
        go_wp2_with (at_builtin; refine wpList_append_own _ rfl _ _ 31 rfl w1.heap.size 23 i0 (.slice none 0 0) 1 24 Try.underlying31 hi0 hz0 hz1' hz2 rfl (by decide) _ _ _ rfl hbs2 ⟨wr.heap.size, 0, none⟩ 1 1 [.slice lo 3 lc] rfl rfl ?d1 ?d2 ?d3 ?d4 ?d5 ?_)
        try case d1 =>
          intro j u hj
          match j, hj with
          | 0, hj => simp at hj; subst hj; exact cbx' _ _ _ _ 0 _ rfl rfl
        try case d2 => first | (intro u hu; simp at hu; subst hu; rfl) | exact rfl
        try case d3 => unfold maxLen; omega
        try case d4 => omega
        try case d5 => first | omega | (simp; omega)
        intro v' w3 hown' hgrow _
        have fin := Lib.hid (parts_last (lc := lc) EBS.out.1 HOW.out EBS.out.2 P6.out hgrow (by rw [H33.out]; exact hown'))
        have hB3 : Below w.heap.size w w3 := (belA HB.out _).grown hgrow (by have := HB.out.size; simp; omega) (fun g hg => by have := (own_blk HOW.out hg).1; omega)
        have HB3 := Lib.hid hB3
        clear hown' hgrow hbs2 hB3
        obtain ⟨bo, c, rfl, hp⟩ := fin.out
        have HQ := Lib.hid hp
        clear hp fin
        go_wp2
        go_ret
        exact ⟨⟨bo, c, by rw [EF.out]; rfl, by rw [EF.out]; exact HQ.out⟩, HB3.out⟩
end Go.Proofs.Ytnpadblfpaiofaa
