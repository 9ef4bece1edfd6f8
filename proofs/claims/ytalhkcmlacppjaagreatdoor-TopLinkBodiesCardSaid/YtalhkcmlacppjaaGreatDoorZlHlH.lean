/- Helpers: what the law reaches. -/
import Derived.Test.YtalhkcmlacppjaaGreatDoorZlHlG
namespace Go.Proofs.YtalhkcmlacppjaaGreatDoor
open Go.ChangeShapes Go.WideShapes Go.ChangeAt Go.RowKit
set_option linter.unusedVariables false
set_option linter.unusedSimpArgs false

/-- The hull, or nothing. -/
def ringL (l : List (Int × Int)) : List (Int × Int) := halfL (srt l) ++ halfL (srt l).reverse
def hullL (l : List (Int × Int)) : List (Int × Int) := if (ringL l).length < 3 then [] else ringL l
theorem hull_cases (l : List (Int × Int)) : (hullL l = [] ∧ ∀ a ∈ l, ∀ b ∈ l, ∀ c ∈ l, dt a b c = 0) ∨ (hullL l ≠ [] ∧ IsHull l (hullL l)) := by
  have m := srt_mem l
  rcases hull_sorted (srt_sorted l) with ⟨h1, h2⟩ | ⟨h1, h2⟩
  · left
    refine ⟨if_pos h1, fun a ha b hb c hc => h2 a ((m a).2 ha) b ((m b).2 hb) c ((m c).2 hc)⟩
  · right
    have e : hullL l = ringL l := if_neg (by unfold ringL; omega)
    rw [e]
    exact ⟨fun h => by rw [show ringL l = halfL (srt l) ++ halfL (srt l).reverse from rfl] at h; rw [h] at h1; simp at h1, isHull_mem m h2⟩
theorem hull_len (l : List (Int × Int)) : (ringL l).length ≤ 2 * l.length := by
  unfold ringL
  rw [List.length_append, half_len, half_len]
  have a := (chain_mem (srt l)).1
  have b := (chain_mem (srt l).reverse).1
  rw [List.length_reverse, srt_len] at b
  rw [srt_len] at a
  omega

set_option maxHeartbeats 2000000 in
theorem reverse_is (base : Nat) (v : Value) (l : List (Int × Int)) (w : World) (hle : l.length ≤ 1000000) (hO : OwnP w base v l) :
    Calls Tryz.prog 49 #[v] w fun e w' => e = .returned (.tuple #[]) ∧ OwnP w' base v l.reverse ∧ w.grownBy w' v.ownBlock := by
  rcases hO with ⟨rfl, rfl⟩ | ⟨g, c, rfl, h1, h2, h3⟩
  · exact (AnyQ.slices_Reverse_empty revL none 0 w).mono fun e w' ⟨a, b⟩ => ⟨a, .inl ⟨rfl, rfl⟩, by rw [b]; exact ⟨rfl, rfl, rfl, Nat.le_refl _, fun k _ _ => rfl⟩⟩
  · have C := AnyQ.slices_Reverse revL 2 Tryz.isAgg23 Tryz.sizeOf23 encP (fun _ => rfl) (fun x v hv => by simp [encP] at hv; rcases hv with rfl | rfl <;> rfl) g 0 c l.toArray w h3 (by simp; omega)
    rw [List.size_toArray] at C
    refine C.mono fun e w' ⟨a, n, b⟩ => ⟨a, .inr ⟨g, c, by rw [List.length_reverse], h1, ?_, ?_⟩, ?_⟩
    · rw [b, Sort.size_putRowK]; exact h2
    · rw [b]
      have := Sort.holdsK_putRowK encP 2 (Sort.ahead w n) g 0 l.toArray l.toArray.reverse (Sort.holdsK_ahead encP 2 w n g 0 l.toArray h3) (by simp)
      simpa using this
    · rw [b]
      exact ⟨rfl, rfl, rfl, by rw [Sort.size_putRowK]; exact Nat.le_refl _, fun k hk hne => by
        have : k ≠ g := fun e => hne (by rw [e]; rfl)
        show (w.heap.modify g _)[k]? = _
        rw [Array.getElem?_modify, if_neg (fun e => this e.symm)]⟩
theorem ownP_own {w : World} {base : Nat} {v : Value} {l : List (Int × Int)} (h : OwnP w base v l) {k : Nat} (hk : v.ownBlock = some k) : k < w.heap.size := by
  rcases h with ⟨rfl, _⟩ | ⟨g, c, rfl, _, h2, _⟩
  · cases hk
  · have : g = k := by simpa [Value.ownBlock] using hk
    omega

set_option maxRecDepth 100000 in
set_option maxHeartbeats 4000000 in
theorem of_is (ao : Option Addr) (n cap : Nat) (l us : List (Int × Int)) (t : Bool) (w : World) (hn : l.length = n) (hu : Hid (hullL l = us)) (ht : Hid (decide (us ≠ []) = t)) (hle : n ≤ 1000) (hP : PRow w ao l) (hV : AllV l) :
    Calls Tryz.prog 16 #[.slice ao n cap] w fun e w' => (∃ a c, e = .returned (.tuple #[.slice a us.length c, .bool t]) ∧ PRow w' a us) ∧ Below w.heap.size w w' := by
  subst hn
  have HP := Lib.hid hP
  have HV := Lib.hid hV
  have HVS : Hid (AllV (srt l)) := Lib.hid ((allV_iff _).2 fun q hq => (allV_iff l).1 hV q ((srt_mem l q).1 hq))
  have HVR : Hid (AllV (srt l).reverse) := Lib.hid ((allV_iff _).2 fun q hq => (allV_iff l).1 hV q ((srt_mem l q).1 (List.mem_reverse.1 hq)))
  have HL := Lib.hid (srt_len l)
  have HNE : Hid (srt l = [] → l = []) := Lib.hid (fun h => List.length_eq_zero_iff.1 (by rw [← srt_len l, h]; rfl))
  have HR : Hid (halfL (srt l) ++ halfL (srt l).reverse = ringL l) := Lib.hid rfl
  have HRN : Hid ((ringL l).length ≤ 1000000) := Lib.hid (by have := hull_len l; omega)
  clear hP hV
  go_enter Tryz.func16, Tryz.ntmps16
  go_wp2_with fail
  refine (values_is ao l.length cap _).mono ?_
  rintro e w1 ⟨rfl, hw1⟩
  have hB1 : Below w.heap.size w w1 := by rw [hw1]; exact belA (Below.refl _ _) _
  have hV1 : w1.heap[w.heap.size]? = some (.cells #[.slice ao l.length cap] 29 (0, 0)) := by rw [hw1]; exact blk_new _ _ _ rfl
  clear hw1
  go_wp2_with fail
  refine (sorted_is w.heap.size ao cap l (srt l) w1 (Lib.hid rfl) (by omega) (prow_below HP.out hB1) hV1).mono ?_
  rintro e w2 ⟨⟨v, rfl, hO⟩, hb⟩
  have hB2 := hB1.trans (hb.mono hB1.size)
  have HO := Lib.hid hO
  have hz1 := hb.size
  obtain ⟨a1, c1, rfl, hP1⟩ := hO.row
  clear hO hb hV1
  generalize hs : srt l = s at *
  have HLE : Hid (s.length ≤ 1000000) := Lib.hid (by have := HL.out; omega)
  obtain ⟨u1, hu1⟩ : ∃ u1, halfL s = u1 := ⟨_, rfl⟩
  obtain ⟨u2, hu2⟩ : ∃ u2, halfL s.reverse = u2 := ⟨_, rfl⟩
  rw [hu1, hu2] at HR
  have Hu1 := Lib.hid hu1
  have Hu2 := Lib.hid hu2
  clear hu1 hu2
  go_wp2_with fail
  refine (half_is a1 s.length c1 s u1 w2 rfl Hu1 HLE.out hP1 HVS.out).mono ?_
  rintro e w3 ⟨⟨v2, rfl, hO2, hf2⟩, hb⟩
  have hB3 := hB2.trans (hb.mono hB2.size)
  have HO3 := Lib.hid (HO.out.below hb)
  have hz2 := hb.size
  clear hP1 hb
  go_wp2_with fail
  refine (reverse_is w1.heap.size _ s w3 HLE.out HO3.out).mono ?_
  rintro e w4 ⟨rfl, hO4, hg⟩
  have hB4 : Below w.heap.size w w4 := hB3.grown hg hB3.size (fun k hk => by
    rcases HO3.out with ⟨h, _⟩ | ⟨g, c, h, h1, h2, h3⟩
    · rw [h] at hk; cases hk
    · rw [h] at hk
      have : g = k := by simpa [Value.ownBlock] using hk
      have := hB1.size
      omega)
  have hO2' : w4.ownsRow w2.heap.size 23 2 v2 u1.length (flat u1) := hO2.kept hg (by
    rcases hO2.2 with ⟨rfl, _⟩ | ⟨g, cp, cur, rfl, hb, _⟩
    · exact .inl rfl
    · right
      intro e
      have hk : g < w2.heap.size := ownP_own (k := g) HO.out e.symm
      omega)
  have hz3 := hg.size
  clear hg hO2
  have HO4 := Lib.hid hO4
  obtain ⟨a4, c4, he4, hP4⟩ := hO4.row
  rw [List.length_reverse] at he4
  cases he4
  have HO2 := Lib.hid hO2'
  clear hO4 hO2'
  go_wp2_with fail
  refine (half_is a1 s.length c1 s.reverse u2 w4 (by rw [List.length_reverse]) Hu2 HLE.out hP4 HVR.out).mono ?_
  rintro e w5 ⟨⟨v3, rfl, hO3, hf3⟩, hb⟩
  have hB5 := hB4.trans (hb.mono hB4.size)
  have HO5 := Lib.hid (own_bel HO2.out hb)
  have HO6 := Lib.hid hO3
  clear hP4 hb hO3
  have HB5 := Lib.hid hB5
  -- the corners
  have HUS : Hid (us = if (ringL l).length < 3 then [] else ringL l) := Lib.hid hu.out.symm
  generalize ringL l = rl at *
  have HRL : Hid (u1 ++ u2 = rl) := HR
  rcases hf2 with ⟨hs0, rfl⟩ | ⟨hs0, g2, cc2, rfl⟩
  · rcases hf3 with ⟨_, rfl⟩ | ⟨h, _⟩
    · have hr : us = [] := by
        rw [HUS.out, ← HRL.out]
        have a : u1 = [] := List.length_eq_zero_iff.1 (by
          have := HO5.out.1
          rcases HO5.out.2 with ⟨_, h⟩ | ⟨_, _, _, h, _⟩
          · exact h
          · cases h)
        have b : u2 = [] := List.length_eq_zero_iff.1 (by
          rcases HO6.out.2 with ⟨_, h⟩ | ⟨_, _, _, h, _⟩
          · exact h
          · cases h)
        rw [a, b]; rfl
      subst hr
      have HT : Hid (t = false) := Lib.hid (by rw [← ht.out]; simp)
      clear HO5 HO6 HO2 HO4 HO3 HO hB5 hB4 hB3 hB2 hB1
      go_wp2_with fail
      refine (concat_nil w5.heap.size 2 _ (cbx _ _ _ _ 0 _ rfl rfl) (cbx _ _ _ _ 1 _ rfl rfl)).mono ?_
      rintro e w6 ⟨rfl, hw6⟩
      go_wp2
      refine bodyPost_ret (v := .tuple #[.slice none 0 0, .bool false]) (by simp [results, Tryz.results16, go_sem]) rfl ?_
      refine ⟨⟨none, 0, by rw [HT.out]; rfl, fun i hi => by simp at hi⟩, ?_⟩
      rw [← hw6]
      exact belA HB5.out _
    · exact absurd (by rw [hs0]; rfl) h
  · rcases hf3 with ⟨h, _⟩ | ⟨_, g3, cc3, rfl⟩
    · exact absurd (List.reverse_eq_nil_iff.1 h) hs0
    · have hl1 : u1.length + u2.length ≤ 1000000 := by
        have := HRN.out
        rw [← HRL.out, List.length_append] at this
        exact this
      obtain ⟨p1, q1, he1, hp1⟩ := own_row HO5.out
      obtain ⟨p2, q2, he2, hp2⟩ := own_row HO6.out
      cases he1
      cases he2
      obtain ⟨o, ho⟩ : ∃ o, Obj.cells #[.slice (some ⟨g2, 0, none⟩) u1.length cc2, .slice (some ⟨g3, 0, none⟩) u2.length cc3] 29 = o := ⟨_, rfl⟩
      have HC := Lib.hid (concat_some w5.heap.size 2 g2 cc2 g3 cc3 u1 u2 (w5.alloc o) hl1 (by rw [← ho]; exact cbx _ _ _ _ 0 _ rfl rfl) (by rw [← ho]; exact cbx _ _ _ _ 1 _ rfl rfl) (prow_alloc hp1 o) (prow_alloc hp2 o))
      subst ho
      clear HO5 HO6 HO2 HO4 HO3 HO hB5 hB4 hB3 hB2 hB1 hp1 hp2
      have HL3 : Hid (u1.length + u2.length = rl.length) := Lib.hid (by rw [← HRL.out, List.length_append])
      go_wp2_with fail
      refine HC.out.mono ?_
      rintro e w6 ⟨⟨v, rfl, hO⟩, hb⟩
      have HB6 := Lib.hid ((belA HB5.out _).trans (hb.mono (by have := HB5.out.size; simp; omega)))
      rw [HRL.out, HL3.out] at hO
      obtain ⟨a, c, rfl, hp⟩ := own_row hO
      clear hO hb HC
      by_cases h3 : rl.length < 3
      · have h3' : (rl.length : Int) < 3 := by omega
        have hr : us = [] := by rw [HUS.out, if_pos h3]
        subst hr
        have HT : Hid (t = false) := Lib.hid (by rw [← ht.out]; simp)
        go_wp2
        refine bodyPost_ret (v := .tuple #[.slice none 0 0, .bool false]) (by simp [results, Tryz.results16, go_sem]) rfl ?_
        exact ⟨⟨none, 0, by rw [HT.out]; rfl, fun i hi => by simp at hi⟩, HB6.out⟩
      · have h3' : ¬ (rl.length : Int) < 3 := by omega
        have hr : us = rl := by rw [HUS.out, if_neg h3]
        subst hr
        have HT : Hid (t = true) := Lib.hid (by rw [← ht.out]; exact decide_eq_true (fun h => h3 (by rw [h]; decide)))
        have HPP := Lib.hid hp
        clear hp
        go_wp2
        refine bodyPost_ret (v := .tuple #[.slice a us.length c, .bool true]) (by simp [results, Tryz.results16, go_sem]) rfl ?_
        exact ⟨⟨a, c, by rw [HT.out], HPP.out⟩, HB6.out⟩
end Go.Proofs.YtalhkcmlacppjaaGreatDoor

