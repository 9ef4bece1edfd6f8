/- Contract of head: the fixed examples. -/
import Derived.Test.YtnpadblfpaiofaaHlN
namespace Go.Proofs.Ytnpadblfpaiofaa
open Go.ChangeShapes Go.WideShapes Go.ChangeAt Go.RowKit
set_option linter.unusedVariables false
set_option linter.unusedSimpArgs false

def isHullB (l h : List (Int × Int)) : Bool := convB h && ((h.all fun x => l.contains x) && (((List.range h.length).all fun i => l.all fun q => decide (0 ≤ dt (gp h i) (gp h (nx h.length i)) q)) && (List.range h.length).all fun i => decide ((gp h 0).1 < (gp h i).1 ∨ ((gp h 0).1 = (gp h i).1 ∧ (gp h 0).2 ≤ (gp h i).2))))
theorem isHull_of {l h : List (Int × Int)} (hb : isHullB l h = true) : IsHull l h := by
  unfold isHullB at hb
  rw [Bool.and_eq_true, Bool.and_eq_true, Bool.and_eq_true] at hb
  obtain ⟨h1, h2, h3, h4⟩ := hb
  refine ⟨(convB_iff h).1 h1, fun i hi => ?_, fun i hi q hq => ?_, fun i hi => ?_⟩
  · have := List.all_eq_true.1 h2 _ (gp_mem hi)
    simpa using this
  · have := List.all_eq_true.1 (List.all_eq_true.1 h3 i (List.mem_range.2 hi)) q hq
    exact of_decide_eq_true this
  · have := List.all_eq_true.1 h4 i (List.mem_range.2 hi)
    rw [decide_eq_true_eq] at this
    exact this
theorem hullL_eq {l h : List (Int × Int)} (hb : IsHull l h) : hullL l = h := by
  rcases hull_cases l with ⟨_, h2⟩ | ⟨_, h2⟩
  · exact absurd h2 (hull_not hb)
  · exact hull_unique h2 hb
theorem hullL_nil {l : List (Int × Int)} (h : ∀ a ∈ l, ∀ b ∈ l, ∀ c ∈ l, dt a b c = 0) : hullL l = [] := by
  rcases hull_cases l with ⟨h1, _⟩ | ⟨_, h2⟩
  · exact h1
  · exact absurd h (hull_not h2)
theorem allV_of {l : List (Int × Int)} (h : (l.all fun p => decide (-439400000 ≤ p.1 ∧ p.1 ≤ 439400000 ∧ -439400000 ≤ p.2 ∧ p.2 ≤ 439400000)) = true) : AllV l := (allV_iff l).2 fun q hq => by
  have := of_decide_eq_true (List.all_eq_true.1 h q hq)
  unfold InV
  omega
/-- A block that holds the points of a list. -/
theorem row_of {w : World} {b : Nat} {T : TypeId} {l : List (Int × Int)} (h : w.heap[b]? = some (.cells (flat l).toArray T (0, 0))) : PRow w (some ⟨b, 0, none⟩) l := fun i hi => by
  have f := flat_get l i hi
  refine ⟨b, 0, rfl, ?_, ?_⟩
  · rw [Nat.zero_add]
    exact blk_cell h (i * 2) _ (by simpa using f.1)
  · rw [Nat.zero_add]
    exact blk_cell h (i * 2 + 1) _ (by simpa using f.2)
theorem row_new (w : World) (l : List (Int × Int)) (T : TypeId) : PRow (w.alloc (.cells (flat l).toArray T)) (some ⟨w.heap.size, 0, none⟩) l := row_of (blk_new _ _ _ rfl)

def L6 : List (Int × Int) := [(0, 0), (4, 0), (2, 1), (4, 4), (0, 4), (2, 0)]
def H4 : List (Int × Int) := [(0, 0), (4, 0), (4, 4), (0, 4)]
def L3 : List (Int × Int) := [(0, 0), (1, 1), (2, 2)]
def D4 : List (Int × Int) := [(0, 0), (4, 0), (4, 4), (2, 1)]
def PD : List (List (Int × Int)) := [[(2, 1), (0, 0), (4, 0)], [(4, 0), (4, 4), (2, 1)]]
theorem hull6 : hullL L6 = H4 := hullL_eq (isHull_of (by kernel_rfl))
theorem hull3 : hullL L3 = [] := hullL_nil (by decide)
theorem dec4 : decL D4 = PD := by kernel_rfl
theorem decH : decL H4 = [H4] := by kernel_rfl
theorem cvH : convB H4 = true := by kernel_rfl
theorem cvD : convB D4 = false := by kernel_rfl

set_option maxRecDepth 100000 in
set_option maxHeartbeats 4000000 in
theorem head_is (w : World) : Calls Try.prog 10 #[] w fun e w' => e = .returned (.bool true) ∧ Below w.heap.size w w' := by
  go_enter Try.func10, Try.ntmps10
  go_wp2_with fail
  change Calls _ _ _ (w.alloc (.cells (flat L6).toArray 35)) _
  obtain ⟨w1, hw1⟩ : ∃ w1, w1 = w.alloc (.cells (flat L6).toArray 35) := ⟨_, rfl⟩
  have R1 : PRow w1 (some ⟨w.heap.size, 0, none⟩) L6 := by rw [hw1]; exact row_new _ _ _
  have B1 : Below w.heap.size w w1 := by rw [hw1]; exact belA (Below.refl _ _) _
  rw [← hw1]
  clear hw1
  refine (of_is (some ⟨w.heap.size, 0, none⟩) 6 6 L6 H4 true w1 rfl (Lib.hid hull6) (Lib.hid (by decide)) (by decide) R1 (allV_of (by decide))).mono ?_
  rintro e w2 ⟨⟨a2, c2, rfl, p2⟩, b2⟩
  have B2 := Lib.hid (B1.trans (b2.mono B1.size))
  have P2 := Lib.hid p2
  clear R1 B1 p2 b2
  go_wp2_with fail
  change Calls _ _ _ (w2.alloc (.cells (flat L3).toArray 35)) _
  obtain ⟨w3, hw3⟩ : ∃ w3, w3 = w2.alloc (.cells (flat L3).toArray 35) := ⟨_, rfl⟩
  have R3 : PRow w3 (some ⟨w2.heap.size, 0, none⟩) L3 := by rw [hw3]; exact row_new _ _ _
  have B3 : Below w.heap.size w w3 := by rw [hw3]; exact belA B2.out _
  have P3 : PRow w3 a2 H4 := by rw [hw3]; exact prow_alloc P2.out _
  rw [← hw3]
  clear hw3
  refine (of_is (some ⟨w2.heap.size, 0, none⟩) 3 3 L3 [] false w3 rfl (Lib.hid hull3) (Lib.hid (by decide)) (by decide) R3 (allV_of (by decide))).mono ?_
  rintro e w4 ⟨⟨a4, c4, rfl, p4⟩, b4⟩
  have B4 := Lib.hid (B3.trans (b4.mono B3.size))
  have P4 := Lib.hid (prow_below P3 b4)
  clear R3 B3 P3 p4 b4 B2 P2
  go_wp2_with fail
  change Calls _ _ _ ((w4.alloc (.cells (flat D4).toArray 35)).alloc (.cells (flat H4).toArray 35)) _
  obtain ⟨w5, hw5⟩ : ∃ w5, w5 = w4.alloc (.cells (flat D4).toArray 35) := ⟨_, rfl⟩
  have D5 : PRow w5 (some ⟨w4.heap.size, 0, none⟩) D4 := by rw [hw5]; exact row_new _ _ _
  have B5 : Below w.heap.size w w5 := by rw [hw5]; exact belA B4.out _
  have P5 : PRow w5 a2 H4 := by rw [hw5]; exact prow_alloc P4.out _
  have E5 : w5.heap.size = w4.heap.size + 1 := by rw [hw5]; simp
  rw [← hw5]
  clear hw5
  generalize w4.heap.size = zd at *
  have R6 := row_new w5 H4 35
  rw [E5] at R6
  refine (same_is a2 (some ⟨zd + 1, 0, none⟩) H4.length 4 c2 4 H4 H4 true _ rfl rfl (Lib.hid (by decide)) (by decide) (by decide) (prow_alloc P5 _) R6).mono ?_
  rintro e w6 ⟨rfl, b6⟩
  have B6 := Lib.hid ((belA B5 _).trans (b6.mono (by have := B5.size; simp; omega)))
  have P6 := Lib.hid (prow_below (prow_alloc P5 _) b6)
  have D6 := Lib.hid (prow_below (prow_alloc D5 _) b6)
  clear R6 b6 P5 D5 B5 E5 B4 P4
  go_wp2_with fail
  refine (decompose_is (some ⟨zd, 0, none⟩) 4 4 D4 PD w6 rfl (Lib.hid dec4) (by decide) (by decide) D6.out (allV_of (by decide))).mono ?_
  rintro e w7 ⟨⟨b7, c7, rfl, q7⟩, hb7⟩
  have B7 := Lib.hid (B6.out.trans (hb7.mono B6.out.size))
  have P7 := Lib.hid (prow_below P6.out hb7)
  have D7 := Lib.hid (prow_below D6.out hb7)
  have Q7 := Lib.hid q7
  clear q7 hb7 B6 P6 D6
  go_wp2_with fail
  have T1 := prow_alloc (prow_alloc (row_new w7 [(2, 1), (0, 0), (4, 0)] 35) (.cells (flat [(4, 0), (4, 4), (2, 1)]).toArray 35)) (.cells #[.slice (some ⟨w7.heap.size, 0, none⟩) 3 3, .slice (some ⟨w7.heap.size + 1, 0, none⟩) 3 3] 23)
  have T2 := prow_alloc (row_new (w7.alloc (.cells (flat [(2, 1), (0, 0), (4, 0)]).toArray 35)) [(4, 0), (4, 4), (2, 1)] 35) (.cells #[.slice (some ⟨w7.heap.size, 0, none⟩) 3 3, .slice (some ⟨w7.heap.size + 1, 0, none⟩) 3 3] 23)
  rw [World.size_alloc] at T2
  obtain ⟨w8, hw8⟩ : ∃ w8, w8 = (((w7.alloc (.cells (flat [(2, 1), (0, 0), (4, 0)]).toArray 35)).alloc (.cells (flat [(4, 0), (4, 4), (2, 1)]).toArray 35)).alloc (.cells #[.slice (some ⟨w7.heap.size, 0, none⟩) 3 3, .slice (some ⟨w7.heap.size + 1, 0, none⟩) 3 3] 23)) := ⟨_, rfl⟩
  have X8 : w8.heap[w7.heap.size + 1 + 1]? = some (.cells #[.slice (some ⟨w7.heap.size, 0, none⟩) 3 3, .slice (some ⟨w7.heap.size + 1, 0, none⟩) 3 3] 23 (0, 0)) := by rw [hw8]; exact blk_new _ _ _ (by simp)
  have B8 : Below w.heap.size w w8 := by rw [hw8]; exact belA (belA (belA B7.out _) _) _
  have P8 : PRow w8 a2 H4 := by rw [hw8]; exact prow_alloc (prow_alloc (prow_alloc P7.out _) _) _
  have D8 : PRow w8 (some ⟨zd, 0, none⟩) D4 := by rw [hw8]; exact prow_alloc (prow_alloc (prow_alloc D7.out _) _) _
  have Q8 : PRows w8 b7 PD := by rw [hw8]; exact prows_alloc (prows_alloc (prows_alloc Q7.out _) _) _
  rw [← hw8] at T1 T2
  have S8 : PRows w8 (some ⟨w7.heap.size + 1 + 1, 0, none⟩) PD := fun i hi => by
    match i, hi with
    | 0, _ => exact ⟨_, 0, _, 3, rfl, blk_cell X8 0 _ rfl, T1⟩
    | 1, _ => exact ⟨_, 0, _, 3, rfl, blk_cell X8 1 _ rfl, T2⟩
  change Calls _ _ _ (((w7.alloc (.cells (flat [(2, 1), (0, 0), (4, 0)]).toArray 35)).alloc (.cells (flat [(4, 0), (4, 4), (2, 1)]).toArray 35)).alloc (.cells #[.slice (some ⟨w7.heap.size, 0, none⟩) 3 3, .slice (some ⟨w7.heap.size + 1, 0, none⟩) 3 3] 23)) _
  rw [← hw8]
  clear hw8 T1 T2 X8
  have AL : AllLen PD 1000 := fun i hi => by
    match i, hi with
    | 0, _ => decide
    | 1, _ => decide
  refine (sameAll_is b7 (some ⟨w7.heap.size + 1 + 1, 0, none⟩) PD.length 2 c7 2 PD PD true w8 rfl rfl (Lib.hid (by decide)) (by decide) AL AL Q8 S8).mono ?_
  rintro e w9 ⟨rfl, hb9⟩
  have B9 := Lib.hid (B8.trans (hb9.mono B8.size))
  have P9 := Lib.hid (prow_below P8 hb9)
  have D9 := Lib.hid (prow_below D8 hb9)
  clear hb9 B8 P8 D8 Q8 S8 B7 P7 D7 Q7 AL
  go_wp2_with fail
  refine (decompose_is a2 H4.length c2 H4 [H4] w9 rfl (Lib.hid decH) (by decide) (by decide) P9.out (allV_of (by decide))).mono ?_
  rintro e wa ⟨⟨ba, ca, rfl, qa⟩, hba⟩
  have Ba := Lib.hid (B9.out.trans (hba.mono B9.out.size))
  have Pa := Lib.hid (prow_below P9.out hba)
  have Da := Lib.hid (prow_below D9.out hba)
  have Qa := Lib.hid qa
  clear qa hba B9 P9 D9
  go_wp2_with fail
  obtain ⟨wb, hwb⟩ : ∃ wb, wb = wa.alloc (.cells #[.slice a2 H4.length c2] 23) := ⟨_, rfl⟩
  have Xb : wb.heap[wa.heap.size]? = some (.cells #[.slice a2 H4.length c2] 23 (0, 0)) := by rw [hwb]; exact blk_new _ _ _ rfl
  have Bb : Below w.heap.size w wb := by rw [hwb]; exact belA Ba.out _
  have Pb : PRow wb a2 H4 := by rw [hwb]; exact prow_alloc Pa.out _
  have Db : PRow wb (some ⟨zd, 0, none⟩) D4 := by rw [hwb]; exact prow_alloc Da.out _
  have Qb : PRows wb ba [H4] := by rw [hwb]; exact prows_alloc Qa.out _
  have Sb : PRows wb (some ⟨wa.heap.size, 0, none⟩) [H4] := fun i hi => by
    match i, hi with
    | 0, _ => exact ⟨_, 0, _, c2, rfl, blk_cell Xb 0 _ rfl, Pb⟩
  rw [← hwb]
  clear hwb Xb
  have AL : AllLen [H4] 1000 := fun i hi => by
    match i, hi with
    | 0, _ => decide
  refine (sameAll_is ba (some ⟨wa.heap.size, 0, none⟩) [H4].length 1 ca 1 [H4] [H4] true wb rfl rfl (Lib.hid (by decide)) (by decide) AL AL Qb Sb).mono ?_
  rintro e wc ⟨rfl, hbc⟩
  have Bc := Lib.hid (Bb.trans (hbc.mono Bb.size))
  have Pc := Lib.hid (prow_below Pb hbc)
  have Dc := Lib.hid (prow_below Db hbc)
  clear hbc Bb Pb Db Qb Sb Ba Pa Da Qa AL
  go_wp2_with fail
  refine (conv_is a2 H4.length c2 H4 true wc rfl (Lib.hid cvH) (by decide) Pc.out (allV_of (by decide))).mono ?_
  rintro e wd ⟨rfl, hbd⟩
  have Bd := Lib.hid (Bc.out.trans (hbd.mono Bc.out.size))
  have Dd := Lib.hid (prow_below Dc.out hbd)
  clear hbd Bc Pc Dc
  go_wp2_with fail
  refine (conv_is (some ⟨zd, 0, none⟩) 4 4 D4 false wd rfl (Lib.hid cvD) (by decide) Dd.out (allV_of (by decide))).mono ?_
  rintro e we ⟨rfl, hbe⟩
  have Be := Lib.hid (Bd.out.trans (hbe.mono Bd.out.size))
  clear hbe Bd Dd
  go_wp2_with fail
  refine (conv_is none 0 0 [] false we rfl (Lib.hid (by decide)) (by decide) (fun i hi => by simp at hi) (fun i hi => by simp at hi)).mono ?_
  rintro e wf ⟨rfl, hbf⟩
  have Bf := Lib.hid (Be.out.trans (hbf.mono Be.out.size))
  clear hbf Be
  go_wp2_with fail
  go_ret
  exact ⟨rfl, Bf.out⟩
end Go.Proofs.Ytnpadblfpaiofaa
