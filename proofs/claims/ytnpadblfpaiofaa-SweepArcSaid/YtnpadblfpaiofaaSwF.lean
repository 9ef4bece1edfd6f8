/- Contracts of Fits and same of the statements of layer 6. -/
import Derived.Test.YtnpadblfpaiofaaSwE
namespace Go.Proofs.Ytnpadblfpaiofaa
open Go.ChangeShapes Go.WideShapes Go.ChangeAt Go.RowKit
set_option linter.unusedVariables false
set_option linter.unusedSimpArgs false

def fitsM (l : List (Int × Int)) : List (Int × Int) := (l.take 14).map fitP
theorem fitsM_len (l : List (Int × Int)) : (fitsM l).length ≤ 14 ∧ (fitsM l).length ≤ l.length := by
  unfold fitsM; rw [List.length_map, List.length_take]; omega
theorem fitsM_len' (l : List (Int × Int)) : (fitsM l).length = min 14 l.length := by
  unfold fitsM; rw [List.length_map, List.length_take]
theorem fitsM_at (l : List (Int × Int)) {k : Nat} (h : k < l.length) (h' : k < 14) : cx (fitsM l) k = fitI (cx l k) ∧ cy (fitsM l) k = fitI (cy l k) := by
  have e : gp (fitsM l) k = fitP (gp l k) := by
    rw [gp_lt (by rw [fitsM_len']; omega), gp_lt h]
    unfold fitsM
    rw [List.getElem_map, List.getElem_take]
  exact ⟨congrArg Prod.fst e, congrArg Prod.snd e⟩
def Small7 (l : List (Int × Int)) : Prop := ∀ q ∈ l, (-10000000 ≤ q.1 ∧ q.1 ≤ 10000000) ∧ -10000000 ≤ q.2 ∧ q.2 ≤ 10000000
theorem fitsM_small (l : List (Int × Int)) : Small7 (fitsM l) := fun q hq => by
  unfold fitsM at hq
  obtain ⟨p, _, rfl⟩ := List.mem_map.1 hq
  exact ⟨fit_bd p.1, fit_bd p.2⟩
theorem small_allV {l : List (Int × Int)} (h : Small7 l) : AllV l := (allV_iff l).2 fun q hq => by
  have := h q hq
  unfold InV; omega

set_option maxRecDepth 100000 in
set_option maxHeartbeats 4000000 in
theorem fits6_is (ao : Option Addr) (n cap : Nat) (l us : List (Int × Int)) (w : World) (hn : l.length = n) (hu : Hid (fitsM l = us)) (hle : n ≤ 9223372036854775807) (hP : PRow w ao l) :
    Calls Try.prog 23 #[.slice ao n cap] w fun e w' => (∃ ao' c, e = .returned (.slice ao' us.length c) ∧ us.length ≤ c ∧ PRow w' ao' us) ∧ Below w.heap.size w w' := by
  subst hn
  obtain ⟨i0, hi, hz0, hz1', hz2⟩ := info_parts infoP
  have HP := Lib.hid hP
  have HU := Lib.hid (show us.length = min 14 l.length by rw [← hu.out]; exact fitsM_len' l)
  clear hP
  go_enter Try.func23, Try.ntmps23
  go_wp2
  go_loopw [3, 4] (fun v i wr => ∃ (vv : Value) (k : Nat), vv = v ∧ k ≤ l.length ∧ k ≤ 14 ∧ i = .int .i64 k ∧ wr.ownsRow w.heap.size 35 2 v k (flat (us.take k)) ∧ Below w.heap.size w wr) (fun _ i _ => 14 - (intOf i).toNat)
  case atStart => exact ⟨_, 0, rfl, Nat.zero_le _, Nat.zero_le _, rfl, World.ownsRow_lit w (base := w.heap.size) (e := 35) (size := 2) #[] 0 (Nat.le_refl _) (by decide) rfl, belA (Below.refl _ _) _⟩
  case round =>
    obtain ⟨v, k, rfl, hk, hk14, rfl, hown, hB⟩ := hrel
    have HO := Lib.hid hown
    have HB := Lib.hid hB
    clear hown hB
    by_cases hlt : k < l.length
    · have hki : (k : Int) < l.length := by omega
      by_cases h14 : k < 14
      · have h14' : (k : Int) < 14 := by omega
        obtain ⟨b, o, rfl, c1, c2⟩ := prow_at (prow_below HP.out HB.out) hlt
        obtain ⟨f1, f2⟩ := fitsM_at l hlt h14
        rw [hu.out] at f1 f2
        have F1 : Hid (fitI (cx l k) = cx us k) := Lib.hid f1.symm
        have F2 : Hid (fitI (cy l k) = cy us k) := Lib.hid f2.symm
        have hku : k < us.length := by rw [HU.out]; omega
        have E : Hid (flat (us.take (k + 1)) = flat (us.take k) ++ [.int .i64 (cx us k), .int .i64 (cy us k)]) := Lib.hid (flat_take us k hku)
        clear f1 f2
        generalize cx l k = x at *
        generalize cy l k = y at *
        generalize cx us k = p at *
        generalize cy us k = q at *
        go_wp2_with fail
        refine (fit_is x y p q _ F1 F2).mono ?_
        rintro e w2 ⟨rfl, hb⟩
        have HB2 := Lib.hid (belT HB.out hb)
        have HO2 := Lib.hid (own_bel HO.out hb)
        clear c1 c2 hb
        have ho3 := HO2.out.alloc (.cells #[.int .i64 p, .int .i64 q] 35)
        have HO3 := Lib.hid ho3
        have z2 := HB2.out.size
        go_wp2_with (at_builtin; refine wpList_append_own _ rfl _ _ 23 rfl w.heap.size 35 i0 (.agg #[.int .i64 0, .int .i64 0]) 2 16 Try.underlying23 hi hz0 hz1' hz2 rfl (by decide) _ _ _ rfl ho3 ⟨w2.heap.size, 0, none⟩ 1 1 [.int .i64 p, .int .i64 q] rfl rfl ?c1 ?c2 ?c3 ?c4 ?c5 ?_)
        try case c1 =>
          intro j u hj
          match j, hj with
          | 0, hj => simp at hj; subst hj; exact cbx' _ _ _ _ 0 _ rfl rfl
          | 1, hj => simp at hj; subst hj; exact cbx' _ _ _ _ 1 _ rfl rfl
        try case c2 => intro u hu; simp at hu; rcases hu with rfl | rfl <;> rfl
        try case c3 => unfold maxLen; omega
        try case c4 => omega
        try case c5 => simp; omega
        intro v' w3 hown' hgrow _
        have HB3 := Lib.hid ((belA HB2.out (.cells #[.int .i64 p, .int .i64 q] 35)).grown hgrow (by simp; omega) (fun g hg => (HO3.out.lt g hg).1))
        have HO4 : Hid (w3.ownsRow w.heap.size 35 2 v' (k + 1) (flat (us.take (k + 1)))) := Lib.hid (by rw [E.out]; exact hown')
        clear hown' hgrow ho3
        go_wp2
        go_roundw
        case rel => exact ⟨_, k + 1, rfl, by omega, by omega, by go_num, HO4.out, HB3.out⟩
        case measure => simp [intOf]; omega
      · have h14' : ¬ (k : Int) < 14 := by omega
        have E := Lib.hid (List.take_of_length_le (show us.length ≤ k by rw [HU.out]; omega))
        have hlu : Hid (us.length = k) := Lib.hid (by rw [HU.out]; omega)
        have HO2 : Hid (wr.ownsRow w.heap.size 35 2 v us.length (flat us)) := Lib.hid (by rw [hlu.out]; have := HO.out; rw [E.out] at this; exact this)
        obtain ⟨lo, lc, rfl, hp⟩ := own_row HO2.out
        have HPP := Lib.hid hp
        clear hp
        go_wp2
        go_ret
        refine ⟨⟨lo, lc, rfl, ?_, HPP.out⟩, HB.out⟩
        rcases HO2.out.2 with ⟨e1, h0⟩ | ⟨g, cp, cur, e1, k1, k2, k3, _⟩
        · omega
        · cases e1; exact k3
    · have hki : ¬ (k : Int) < l.length := by omega
      have E := Lib.hid (List.take_of_length_le (show us.length ≤ k by rw [HU.out]; omega))
      have hlu : Hid (us.length = k) := Lib.hid (by rw [HU.out]; omega)
      have HO2 : Hid (wr.ownsRow w.heap.size 35 2 v us.length (flat us)) := Lib.hid (by rw [hlu.out]; have := HO.out; rw [E.out] at this; exact this)
      obtain ⟨lo, lc, rfl, hp⟩ := own_row HO2.out
      have HPP := Lib.hid hp
      clear hp
      go_wp2
      go_ret
      refine ⟨⟨lo, lc, rfl, ?_, HPP.out⟩, HB.out⟩
      rcases HO2.out.2 with ⟨e1, h0⟩ | ⟨g, cp, cur, e1, k1, k2, k3, _⟩
      · omega
      · cases e1; exact k3

theorem run_min3 (a b : Nat) (n : Nat) (h : n = min (min a b) 12) (w : World) : (Builtin.min_ #[3, 3, 3] 3 #[.int .i64 (a : Int), .int .i64 (b : Int), .int .i64 12]).run Try.prog w = .ok (.int .i64 (n : Int)) w := by
  obtain ⟨m, hm⟩ : ∃ m : Int, (Builtin.min_ #[3, 3, 3] 3 #[.int .i64 (a : Int), .int .i64 (b : Int), .int .i64 12]).run Try.prog w = .ok (.int .i64 m) w ∧ m = (n : Int) := by
    refine ⟨_, by simp [Builtin.min_, Builtin.min2]; rfl, ?_⟩
    split <;> split <;> omega
  rw [hm.1, hm.2]
def minN (a b : Nat) : Nat := min (min a b) 12
def sameN (l m : List (Int × Int)) : Nat := minN (fitsM l).length (fitsM m).length
def sameL (l m : List (Int × Int)) : List (Int × Int) := (fitsM l).take (sameN l m)
def sameR (l m : List (Int × Int)) : List (Int × Int) := (fitsM m).take (sameN l m)
theorem same_len (l m : List (Int × Int)) : (sameL l m).length = sameN l m ∧ (sameR l m).length = sameN l m ∧ sameN l m ≤ 12 := by
  unfold sameL sameR sameN minN
  rw [List.length_take, List.length_take]
  omega
theorem same_small (l m : List (Int × Int)) : Small7 (sameL l m) ∧ Small7 (sameR l m) :=
  ⟨fun q hq => fitsM_small l q (List.mem_of_mem_take hq), fun q hq => fitsM_small m q (List.mem_of_mem_take hq)⟩

set_option maxRecDepth 100000 in
set_option maxHeartbeats 4000000 in
theorem same6_is (ao bo : Option Addr) (na nb ca cb : Nat) (l m us vs : List (Int × Int)) (n : Nat) (w : World) (hna : l.length = na) (hnb : m.length = nb) (hu : Hid (sameL l m = us)) (hv : Hid (sameR l m = vs)) (hN : Hid (sameN l m = n)) (hla : na ≤ 9223372036854775807) (hlb : nb ≤ 9223372036854775807) (hP : PRow w ao l) (hQ : PRow w bo m) :
    Calls Try.prog 28 #[.slice ao na ca, .slice bo nb cb] w fun e w' => (∃ a b c d, e = .returned (.tuple #[.slice a n c, .slice b n d]) ∧ n ≤ c ∧ n ≤ d ∧ PRow w' a us ∧ PRow w' b vs) ∧ Below w.heap.size w w' := by
  have HP := Lib.hid hP
  have HQ := Lib.hid hQ
  obtain ⟨A, hA⟩ : ∃ A, fitsM l = A := ⟨_, rfl⟩
  obtain ⟨B, hB⟩ : ∃ B, fitsM m = B := ⟨_, rfl⟩
  have HA := Lib.hid hA
  have HB := Lib.hid hB
  have EU : Hid (us = A.take n) := Lib.hid (by rw [← hu.out, ← hA, ← hN.out]; rfl)
  have EV : Hid (vs = B.take n) := Lib.hid (by rw [← hv.out, ← hB, ← hN.out]; rfl)
  have hn : n = minN A.length B.length := by rw [← hN.out, ← hA, ← hB]; rfl
  have hA14 : A.length ≤ 14 := by rw [← hA]; exact (fitsM_len l).1
  have hB14 : B.length ≤ 14 := by rw [← hB]; exact (fitsM_len m).1
  unfold minN at hn
  clear hP hQ hA hB
  go_enter Try.func28, Try.ntmps28
  go_wp2_with fail
  refine (fits6_is ao na ca l A w hna HA hla HP.out).mono ?_
  rintro e w1 ⟨⟨a, c, rfl, hc, hp⟩, hb⟩
  have B1 := Lib.hid hb
  have Q1 := Lib.hid (prow_below HQ.out hb)
  have P1 := Lib.hid hp
  clear hb hp
  go_wp2_with fail
  refine (fits6_is bo nb cb m B w1 hnb HB hlb Q1.out).mono ?_
  rintro e w2 ⟨⟨b, d, rfl, hd, hp⟩, hb⟩
  have B2 := Lib.hid (belT B1.out hb)
  have P2 := Lib.hid (prow_below P1.out hb)
  have Q2 := Lib.hid hp
  clear hb hp
  have MN := fun W => run_min3 A.length B.length n hn W
  have hn1 : n ≤ A.length := by omega
  have hn2 : n ≤ B.length := by omega
  have i1 : (n : Int) ≤ (c : Int) := by omega
  have i2 : (n : Int) ≤ (d : Int) := by omega
  have i3 : (0 : Int) ≤ (n : Int) := by omega
  have i4 : n ≤ c := by omega
  have i5 : n ≤ d := by omega
  clear hn hA14 hB14
  go_upto_region 4 with fail
  clear MN
  refine wq_region mixedP (by kernel_rfl) ?_
  repeat (refine wq_step (fun K hK => ?_); go_simp; first | (refine hK _ ?_; clear hK K) | (apply Exists.intro; refine ⟨fun _ => ?_, hK _ ?_⟩; (fail); clear hK K))
  refine wq_nil ?_
  intro _ hw'
  obtain ⟨⟨nq, osq⟩, hw''⟩ := hw'
  subst hw''
  have B3 := Lib.hid (belT B2.out (below_gr w2 nq osq))
  have P3 := Lib.hid (prow_below P2.out (below_gr w2 nq osq))
  have Q3 := Lib.hid (prow_below Q2.out (below_gr w2 nq osq))
  go_wp2
  refine bodyPost_ret (v := .tuple #[.slice a n c, .slice b n d]) (by simp [results, Try.results28, go_sem]) rfl ?_
  exact ⟨⟨a, b, c, d, rfl, i4, i5, by rw [EU.out]; exact prow_take P3.out n, by rw [EV.out]; exact prow_take Q3.out n⟩, B3.out⟩
end Go.Proofs.Ytnpadblfpaiofaa
