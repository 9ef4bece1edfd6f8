/- Contracts of the reference's Swept and In (where the point lies in the polygon). The coordinates are bounded. -/
import Derived.Test.YtnpadblfpaiofaaSwG
import Derived.Test.YtnpadblfpaiofaaHmF
import Derived.Test.YtnpadblfpaiofaaHlO
import Derived.Test.YtnpadblfpaiofaaHuD
namespace Go.Proofs.Ytnpadblfpaiofaa
open Go.ChangeShapes Go.WideShapes Go.ChangeAt Go.RowKit
set_option linter.unusedVariables false
set_option linter.unusedSimpArgs false

theorem hullL_size (l : List (Int × Int)) : (hullL l).length ≤ l.length := by
  rcases hull_cases l with ⟨h0, _⟩ | ⟨h0, hH⟩
  · rw [h0]; simp
  · exact pigeon (hullL l) l (conv_nodup hH.1) fun q hq => by obtain ⟨i, hi, e⟩ := mem_gp hq; rw [← e]; exact hH.2.1 i hi
theorem hullL_short {l : List (Int × Int)} (h : l.length < 3) : hullL l = [] := by
  rcases hull_cases l with ⟨h0, _⟩ | ⟨h0, hH⟩
  · exact h0
  · have := hullL_size l
    have := hH.1.1
    omega
theorem hullL_allV {l : List (Int × Int)} (h : AllV l) : AllV (hullL l) := by
  rcases hull_cases l with ⟨e, _⟩ | ⟨_, hH⟩
  · rw [e]; intro i hi; simp at hi
  · exact (allV_iff _).2 fun q hq => by
      obtain ⟨j, hj, e⟩ := mem_gp hq
      rw [← e]
      exact (allV_iff l).1 h _ (hH.2.1 j hj)
theorem of4_all (ao : Option Addr) (n cap : Nat) (l us : List (Int × Int)) (t : Bool) (w : World) (hn : l.length = n) (hu : Hid (hullL l = us)) (ht : Hid (decide (us ≠ []) = t)) (hle : n ≤ 1000) (hP : PRow w ao l) (hV : AllV l) :
    Calls Try.prog 13 #[.slice ao n cap] w fun e w' => (∃ a c, e = .returned (.tuple #[.slice a us.length c, .bool t]) ∧ PRow w' a us) ∧ Below w.heap.size w w' := by
  by_cases h3 : 3 ≤ n
  · exact of4_is ao n cap l us t w hn hu ht h3 hle hP hV
  · have e : us = [] := by rw [← hu.out]; exact hullL_short (by omega)
    subst e
    obtain rfl : t = false := by rw [← ht.out]; rfl
    exact (of4_small ao n cap w (by omega)).mono fun e w' ⟨h1, h2⟩ => ⟨⟨none, 0, h1, fun i hi => absurd hi (by simp)⟩, h2⟩

set_option maxRecDepth 100000 in
set_option maxHeartbeats 4000000 in
theorem swept_is (ao bo : Option Addr) (na nb ca cb : Nat) (o1 o2 : Int) (a b us : List (Int × Int)) (t : Bool) (w : World) (hna : a.length = na) (hnb : b.length = nb) (hu : Hid (regL (o1, o2) a b = us)) (ht : Hid (decide (us ≠ []) = t)) (hla : na ≤ 1000) (hlb : nb ≤ 1000) (hA : PRow w ao a) (hB : PRow w bo b) (hVA : AllV a) (hVB : AllV b) (k1 : InV o1) (k2 : InV o2) (hVO : AllV (outL (o1, o2) a b)) :
    Calls Try.prog 27 #[.agg #[.int .i64 o1, .int .i64 o2], .slice ao na ca, .slice bo nb cb] w fun e w' => (∃ a c, e = .returned (.tuple #[.slice a us.length c, .bool t]) ∧ PRow w' a us) ∧ Below w.heap.size w w' := by
  have bad : ¬ (na = nb ∧ na ≤ 12) → us = [] ∧ t = false := fun h => by
    have : us = [] := by
      rw [← hu.out]
      exact if_neg (by rw [hna, hnb]; exact h)
    exact ⟨this, by rw [← ht.out, this]; rfl⟩
  by_cases h1 : na = nb
  · by_cases h2 : na ≤ 12
    · clear bad
      subst h1
      have PA := Lib.hid hA
      have PB := Lib.hid hB
      have VP : Hid (AllV (ptsL (o1, o2) a b)) := Lib.hid (allV_app (allV_app hVA hVB) hVO)
      have VA := Lib.hid hVA
      have VB := Lib.hid hVB
      have K := Lib.hid (And.intro k1 k2)
      have HU : Hid (hullL (ptsL (o1, o2) a b) = us) := Lib.hid (by rw [← hu.out]; exact (if_pos ⟨by omega, by omega⟩).symm)
      obtain ⟨l, hl⟩ : ∃ l, ptsL (o1, o2) a b = l := ⟨_, rfl⟩
      have HL := Lib.hid hl
      have HLL : Hid (l.length = na + na + na) := Lib.hid (by rw [← hl]; unfold ptsL; rw [List.length_append, List.length_append, outL_len _ _ _ (by omega), hna, hnb])
      rw [hl] at HU VP
      have NA := Lib.hid hna
      have NB := Lib.hid hnb
      clear hA hB hVA hVB k1 k2 hVO hl hu hna hnb
      have h2' : ¬ (12 : Int) < (na : Int) := by omega
      go_enter Try.func27, Try.ntmps27
      go_upto_region 3 with fail
      have x0 := blk_new w (.cells #[.int .i64 o1, .int .i64 o2] 35) _ rfl
      have x1 := blk_cell x0 0 _ rfl
      have x2 := blk_cell x0 1 _ rfl
      have B1 := Lib.hid (belA (Below.refl _ w) (.cells #[.int .i64 o1, .int .i64 o2] 35))
      have PA1 := Lib.hid (prow_below PA.out B1.out)
      have PB1 := Lib.hid (prow_below PB.out B1.out)
      clear x0
      generalize w.alloc (.cells #[.int .i64 o1, .int .i64 o2] 35) = w1 at *
      go_wp2_with fail
      refine (points_is ao bo na ca cb o1 o2 a b l w1 NA.out NB.out HL (by omega) PA1.out PB1.out VA.out VB.out K.out.1 K.out.2).mono ?_
      rintro e w2 ⟨⟨lo, lc, rfl, hp⟩, hb⟩
      have B2 := Lib.hid (belT B1.out hb)
      have PL := Lib.hid hp
      clear hb hp x1 x2
      go_wp2_with fail
      refine (of4_all lo l.length lc l us t w2 rfl HU ht (by rw [HLL.out]; omega) PL.out VP.out).mono ?_
      rintro e w4 ⟨⟨ro, rc, rfl, hp⟩, hb⟩
      have B5 := Lib.hid (belT B2.out hb)
      have PR := Lib.hid hp
      clear hb hp
      go_wp2
      refine bodyPost_ret (v := .tuple #[.slice ro us.length rc, .bool t]) (by simp [results, Try.results27, go_sem]) rfl ?_
      exact ⟨⟨ro, rc, rfl, PR.out⟩, B5.out⟩
    · obtain ⟨rfl, rfl⟩ := bad (fun h => h2 h.2)
      have h2' : (12 : Int) < (na : Int) := by omega
      go_enter Try.func27, Try.ntmps27
      go_wp2
      refine bodyPost_ret (v := .tuple #[.slice none 0 0, .bool false]) (by simp [results, Try.results27, go_sem]) rfl ?_
      exact ⟨⟨none, ⟨0, rfl⟩, fun i hi => absurd hi (by simp)⟩, belA (Below.refl _ w) _⟩
  · obtain ⟨rfl, rfl⟩ := bad (fun h => h1 h.1)
    have h1' : ((na : Int) == (nb : Int)) = false := by simp; omega
    have h1'' : ((na : Int) != (nb : Int)) = true := by simp; omega
    go_enter Try.func27, Try.ntmps27
    go_wp2
    refine bodyPost_ret (v := .tuple #[.slice none 0 0, .bool false]) (by simp [results, Try.results27, go_sem]) rfl ?_
    exact ⟨⟨none, ⟨0, rfl⟩, fun i hi => absurd hi (by simp)⟩, belA (Below.refl _ w) _⟩

set_option maxRecDepth 100000 in
set_option maxHeartbeats 4000000 in
theorem in6_is (ao : Option Addr) (n cap : Nat) (l : List (Int × Int)) (x y : Int) (w : World) (hn : l.length = n) (h0 : 0 < n) (hle : n ≤ 1000) (hP : PRow w ao l) (hV : AllV l) (kx : InV x) (ky : InV y) (hin : Hid (inAll l (x, y))) :
    Calls Try.prog 31 #[.slice ao n cap, .agg #[.int .i64 x, .int .i64 y]] w fun e w' => e = .returned (.bool true) ∧ Below w.heap.size w w' := by
  subst hn
  have HP := Lib.hid hP
  have HV := Lib.hid hV
  have K := Lib.hid (And.intro kx ky)
  have h0' : (0 : Int) < l.length := by omega
  have hl0 : (l.length : Int) ≠ 0 := by omega
  have hl1 : ¬ l = [] := fun e => by rw [e] at h0; simp at h0
  have hl2 : ¬ l.length = 0 := by omega
  clear hP hV kx ky
  go_enter Try.func31, Try.ntmps31
  go_wp2
  have hb0 := belA (Below.refl _ w) (.cells #[.int .i64 x, .int .i64 y] 35)
  have X1 := blk_new w (.cells #[.int .i64 x, .int .i64 y] 35) _ rfl
  have PA := Lib.hid (prow_below HP.out hb0)
  have B0 := Lib.hid hb0
  generalize w.alloc (.cells #[.int .i64 x, .int .i64 y] 35) = w1 at *
  generalize hzx : w.heap.size = zx at *
  have HX1 := Lib.hid X1
  clear hb0 X1 HP
  go_loopw [5] (fun i wr => ∃ k : Nat, k ≤ l.length ∧ i = .int .i64 k ∧ Below w1.heap.size w1 wr) (fun i _ => l.length - (intOf i).toNat)
  case atStart => exact ⟨0, Nat.zero_le _, rfl, Below.refl _ _⟩
  case round =>
    obtain ⟨k, hk, rfl, hB⟩ := hrel
    have HB := Lib.hid hB
    clear hB
    by_cases hlt : k < l.length
    · have hki : (k : Int) < l.length := by omega
      obtain ⟨j, hj⟩ : ∃ j, nx l.length k = j := ⟨_, rfl⟩
      have hjl : j < l.length := by rw [← hj]; exact nx_lt h0
      have hji : (j : Int) < l.length := by omega
      have hk1 : (0 : Int) ≤ (k : Int) + 1 := by omega
      have ht2 : ((k : Int) + 1).tmod (l.length : Int) = (j : Int) := by rw [← hj, Int.tmod_eq_emod_of_nonneg (by omega)]; unfold nx; simp
      have hw3 : IntKind.i64.wrap ((k : Int) + 1) = (k : Int) + 1 := wrap_k _ (by omega)
      have hw5 : IntKind.i64.wrap (j : Int) = (j : Int) := wrap_k _ (by omega)
      obtain ⟨b, o, rfl, c1, c2⟩ := prow_at (prow_below PA.out HB.out) hlt
      obtain ⟨b', o', ho', c3, c4⟩ := prow_at (prow_below PA.out HB.out) hjl
      obtain ⟨rfl, rfl⟩ : b = b' ∧ o = o' := by simpa using ho'
      clear ho'
      have va := HV.out k hlt
      have vb := HV.out j hjl
      have hd := hin.out k hlt
      rw [hj] at hd
      obtain ⟨v, hv⟩ : ∃ v, det (cx l k) (cy l k) (cx l j) (cy l j) x y = v := ⟨_, rfl⟩
      have hv0 : ¬ v < 0 := by
        have : dt (gp l k) (gp l j) (x, y) = v := hv
        omega
      have C := Lib.hid (fun W => side_gr (cx l k) (cy l k) (cx l j) (cy l j) x y v W va.1 va.2 vb.1 vb.2 K.out.1 K.out.2 (Lib.hid hv))
      have zb : b < wr.heap.size := World.block_lt_of_cell? wr _ c1
      have X2 := blk_call HX1.out HB.out
      have zA := blk_lt X2
      have a0 := blk_cell X2 0 _ rfl
      have a1 := blk_cell X2 1 _ rfl
      clear hv hd va vb hj X2
      generalize cx l k = p1 at *
      generalize cy l k = p2 at *
      generalize cx l j = q1 at *
      generalize cy l j = q2 at *
      have G1 := fun n os => cell_grown (n := n) (os := os) zb c1
      have G2 := fun n os => cell_grown (n := n) (os := os) zb c2
      have G3 := fun n os => cell_grown (n := n) (os := os) zb c3
      have G4 := fun n os => cell_grown (n := n) (os := os) zb c4
      have G5 := fun n os => cell_grown (n := n) (os := os) zA a0
      have G6 := fun n os => cell_grown (n := n) (os := os) zA a1
      clear c1 c2 c3 c4 a0 a1
      go_upto_region 4 with fail
      refine wq_region mixedP (by kernel_rfl) ?_
      repeat (refine wq_step (fun K hK => ?_); go_simp; first | (refine hK _ ?_; clear hK K) | (apply Exists.intro; refine ⟨fun _ => ?_, hK _ ?_⟩; (first | (go_at_call 30; refine Calls.grown_of (C.out _))); clear hK K))
      refine wq_nil ?_
      intro _ hw'
      obtain ⟨⟨nq, osq⟩, hw''⟩ := hw'
      subst hw''
      have HB8 := Lib.hid (belT HB.out (below_gr wr nq osq))
      clear G1 G2 G3 G4 G5 G6
      go_wp2
      go_roundw
      case rel => exact ⟨k + 1, by omega, by go_num, HB8.out⟩
      case measure => simp [intOf]; omega
    · have hki : ¬ (k : Int) < l.length := by omega
      have HB2 := Lib.hid (B0.out.trans (HB.out.mono (by have := B0.out.size; omega)))
      go_wp2
      go_ret
      exact ⟨rfl, HB2.out⟩
end Go.Proofs.Ytnpadblfpaiofaa
