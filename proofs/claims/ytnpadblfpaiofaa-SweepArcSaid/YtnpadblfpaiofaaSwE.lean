/- Contract of sweep.Region. The coordinates are bounded. -/
import Derived.Test.YtnpadblfpaiofaaSwD
namespace Go.Proofs.Ytnpadblfpaiofaa
open Go.ChangeShapes Go.WideShapes Go.ChangeAt Go.RowKit
set_option linter.unusedVariables false
set_option linter.unusedSimpArgs false

def ptsL (o : Int × Int) (a b : List (Int × Int)) : List (Int × Int) := a ++ b ++ outL o a b
def regL (o : Int × Int) (a b : List (Int × Int)) : List (Int × Int) := if a.length = b.length ∧ a.length ≤ 12 then hullL (ptsL o a b) else []
theorem allV_app {a b : List (Int × Int)} (ha : AllV a) (hb : AllV b) : AllV (a ++ b) := (allV_iff _).2 fun q hq => by
  rcases List.mem_append.1 hq with h | h
  · exact (allV_iff a).1 ha q h
  · exact (allV_iff b).1 hb q h

set_option maxRecDepth 100000 in
set_option maxHeartbeats 4000000 in
theorem region_is (ao bo : Option Addr) (na nb ca cb : Nat) (o1 o2 : Int) (a b us : List (Int × Int)) (t : Bool) (w : World) (hna : a.length = na) (hnb : b.length = nb) (hu : Hid (regL (o1, o2) a b = us)) (ht : Hid (decide (us ≠ []) = t)) (hla : na ≤ 1000) (hlb : nb ≤ 1000) (hA : PRow w ao a) (hB : PRow w bo b) (hVA : AllV a) (hVB : AllV b) (k1 : InV o1) (k2 : InV o2) (hVO : AllV (outL (o1, o2) a b)) :
    Calls Try.prog 26 #[.agg #[.int .i64 o1, .int .i64 o2], .slice ao na ca, .slice bo nb cb] w fun e w' => (∃ a c, e = .returned (.tuple #[.slice a us.length c, .bool t]) ∧ PRow w' a us) ∧ Below w.heap.size w w' := by
  have bad : ¬ (na = nb ∧ na ≤ 12) → us = [] ∧ t = false := fun h => by
    have : us = [] := by
      rw [← hu.out]
      exact if_neg (by rw [hna, hnb]; exact h)
    exact ⟨this, by rw [← ht.out, this]; rfl⟩
  by_cases h1 : na = nb
  · by_cases h2 : na ≤ 12
    · clear bad
      subst h1
      have PA := Lib.hid hA
      have PB := Lib.hid hB
      have VP : Hid (AllV (ptsL (o1, o2) a b)) := Lib.hid (allV_app (allV_app hVA hVB) hVO)
      have VA := Lib.hid hVA
      have VB := Lib.hid hVB
      have K := Lib.hid (And.intro k1 k2)
      have HU : Hid (hullL (ptsL (o1, o2) a b) = us) := Lib.hid (by rw [← hu.out]; exact (if_pos ⟨by omega, by omega⟩).symm)
      obtain ⟨ms, hms⟩ : ∃ ms, outL (o1, o2) a b = ms := ⟨_, rfl⟩
      have HM := Lib.hid hms
      have HML : Hid (ms.length = na) := Lib.hid (by rw [← hms, outL_len _ _ _ (by omega), hna])
      obtain ⟨l, hl⟩ : ∃ l, ptsL (o1, o2) a b = l := ⟨_, rfl⟩
      have HL : Hid (a ++ b ++ ms = l) := Lib.hid (by rw [← hl, ← hms]; rfl)
      have HLL : Hid (l.length = na + na + na) := Lib.hid (by rw [← HL.out, List.length_append, List.length_append, HML.out, hna, hnb])
      rw [hl] at HU VP
      have NA := Lib.hid hna
      have NB := Lib.hid hnb
      clear hA hB hVA hVB k1 k2 hVO hms hl hu hna hnb
      have h2' : ¬ (12 : Int) < (na : Int) := by omega
      go_enter Try.func26, Try.ntmps26
      go_upto_region 3 with fail
      have x0 := blk_new w (.cells #[.int .i64 o1, .int .i64 o2] 35) _ rfl
      have x1 := blk_cell x0 0 _ rfl
      have x2 := blk_cell x0 1 _ rfl
      have B1 := Lib.hid (belA (Below.refl _ w) (.cells #[.int .i64 o1, .int .i64 o2] 35))
      have PA1 := Lib.hid (prow_below PA.out B1.out)
      have PB1 := Lib.hid (prow_below PB.out B1.out)
      clear x0
      generalize w.alloc (.cells #[.int .i64 o1, .int .i64 o2] 35) = w1 at *
      go_wp2_with fail
      refine (combine_is ao bo na ca cb o1 o2 a b ms w1 NA.out NB.out HM (by omega) PA1.out PB1.out VA.out VB.out K.out.1 K.out.2).mono ?_
      rintro e w2 ⟨⟨g, rfl, hp⟩, hb⟩
      have B2 := Lib.hid (belT B1.out hb)
      have PA2 := Lib.hid (prow_below PA1.out hb)
      have PB2 := Lib.hid (prow_below PB1.out hb)
      have PM2 := Lib.hid hp
      clear hb hp x1 x2
      obtain ⟨ob, hob⟩ : ∃ ob, Obj.cells #[.slice ao na ca, .slice bo na cb, .slice (some ⟨g, 0, none⟩) na na] 22 = ob := ⟨_, rfl⟩
      have y0 := blk_new w2 ob _ rfl
      have PA3 := Lib.hid (prow_alloc PA2.out ob)
      have PB3 := Lib.hid (prow_alloc PB2.out ob)
      have PM3 := Lib.hid (prow_alloc PM2.out ob)
      have B3 := Lib.hid (belA B2.out ob)
      subst hob
      have y1 := blk_cell y0 0 _ rfl
      have y2 := blk_cell y0 1 _ rfl
      have y3 := blk_cell y0 2 _ rfl
      have Y := Lib.hid (And.intro y1 (And.intro y2 y3))
      clear y0 y1 y2 y3
      go_wp2_with fail
      refine (gather_is w2.heap.size 3 na na na ao bo (some ⟨g, 0, none⟩) ca cb na a b ms l _ NA.out NB.out HML.out HL (by omega) Y.out.1 Y.out.2.1 Y.out.2.2 PA3.out PB3.out PM3.out).mono ?_
      rintro e w3 ⟨⟨v, rfl, hO⟩, hb⟩
      have B4 := Lib.hid (belT B3.out hb)
      obtain ⟨lo, lc, rfl, hp⟩ := own_row hO
      have PL := Lib.hid hp
      clear hO hb hp
      go_wp2_with fail
      refine (of_is lo l.length lc l us t w3 rfl HU ht (by rw [HLL.out]; omega) PL.out VP.out).mono ?_
      rintro e w4 ⟨⟨ro, rc, rfl, hp⟩, hb⟩
      have B5 := Lib.hid (belT B4.out hb)
      have PR := Lib.hid hp
      clear hb hp
      go_wp2
      refine bodyPost_ret (v := .tuple #[.slice ro us.length rc, .bool t]) (by simp [results, Try.results26, go_sem]) rfl ?_
      exact ⟨⟨ro, rc, rfl, PR.out⟩, B5.out⟩
    · obtain ⟨rfl, rfl⟩ := bad (fun h => h2 h.2)
      have h2' : (12 : Int) < (na : Int) := by omega
      subst h1
      go_enter Try.func26, Try.ntmps26
      go_wp2
      refine bodyPost_ret (v := .tuple #[.slice none 0 0, .bool false]) (by simp [results, Try.results26, go_sem]) rfl ?_
      exact ⟨⟨none, ⟨0, rfl⟩, fun i hi => absurd hi (by simp)⟩, belA (Below.refl _ w) _⟩
  · obtain ⟨rfl, rfl⟩ := bad (fun h => h1 h.1)
    have h1' : ((na : Int) == (nb : Int)) = false := by simp; omega
    have h1'' : ((na : Int) != (nb : Int)) = true := by simp; omega
    go_enter Try.func26, Try.ntmps26
    go_wp2
    refine bodyPost_ret (v := .tuple #[.slice none 0 0, .bool false]) (by simp [results, Try.results26, go_sem]) rfl ?_
    exact ⟨⟨none, ⟨0, rfl⟩, fun i hi => absurd hi (by simp)⟩, belA (Below.refl _ w) _⟩
end Go.Proofs.Ytnpadblfpaiofaa
