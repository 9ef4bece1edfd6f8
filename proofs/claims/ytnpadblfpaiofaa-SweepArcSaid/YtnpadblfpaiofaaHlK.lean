/- Contract of hull.firstEar. Condition: the slice reads as the list says; the coordinates are bounded. -/
import Derived.Test.YtnpadblfpaiofaaHlJ
import Derived.WalkMore
namespace Go.Proofs.Ytnpadblfpaiofaa
open Go.ChangeShapes Go.WideShapes Go.ChangeAt Go.RowKit
set_option linter.unusedVariables false
set_option linter.unusedSimpArgs false

def okE (ps : List (Int × Int)) (i k : Nat) : Bool := k == pv ps.length i || (k == i || (k == nx ps.length i || !inB (triP ps i) (cx ps k) (cy ps k)))
def earD (ps : List (Int × Int)) (i : Nat) : Int := det (cx (triP ps i) 0) (cy (triP ps i) 0) (cx (triP ps i) 1) (cy (triP ps i) 1) (cx (triP ps i) 2) (cy (triP ps i) 2)
def earB (ps : List (Int × Int)) (i : Nat) : Bool := decide (0 < earD ps i) && (List.range ps.length).all (okE ps i)
def firstE (ps : List (Int × Int)) : Option Nat := (List.range ps.length).find? (earB ps)
theorem earB_no {ps : List (Int × Int)} {i k : Nat} (hk : k < ps.length) (h : okE ps i k = false) : earB ps i = false := by
  unfold earB
  rw [Bool.and_eq_false_iff]
  right
  rw [List.all_eq_false]
  exact ⟨k, List.mem_range.2 hk, by rw [h]; decide⟩
theorem earB_yes {ps : List (Int × Int)} {i : Nat} (hd : 0 < earD ps i) (h : ∀ k, k < ps.length → okE ps i k = true) : earB ps i = true := by
  unfold earB
  rw [Bool.and_eq_true, decide_eq_true_eq]
  exact ⟨hd, List.all_eq_true.2 fun k hk => h k (List.mem_range.1 hk)⟩
theorem firstE_some {ps : List (Int × Int)} {i : Nat} (hi : i < ps.length) (h : ∀ k, k < i → earB ps k = false) (hy : earB ps i = true) : firstE ps = some i := by
  unfold firstE
  rw [List.find?_range_eq_some]
  exact ⟨hy, List.mem_range.2 hi, fun j hj => by rw [h j hj]; rfl⟩
theorem firstE_none {ps : List (Int × Int)} (h : ∀ k, k < ps.length → earB ps k = false) : firstE ps = none := by
  unfold firstE
  rw [List.find?_eq_none]
  intro x hx
  rw [h x (List.mem_range.1 hx)]
  decide

set_option maxRecDepth 100000 in
set_option maxHeartbeats 4000000 in
theorem firstEar_is (ao : Option Addr) (n cap : Nat) (ps : List (Int × Int)) (w : World) (hn : ps.length = n) (hle : n ≤ 1000000) (hP : PRow w ao ps) (hV : AllV ps) :
    Calls Try.prog 66 #[.slice ao n cap] w fun e w' => ((∃ i : Nat, i < ps.length ∧ firstE ps = some i ∧ e = .returned (.tuple #[.int .i64 (i : Int), .bool true])) ∨ (firstE ps = none ∧ e = .returned (.tuple #[.int .i64 0, .bool false]))) ∧ Below w.heap.size w w' := by
  subst hn
  have HP := Lib.hid hP
  have HV := Lib.hid hV
  clear hP hV
  have hmx := mixedP
  go_enter Try.func66, Try.ntmps66
  go_wp2
  go_step3
  go_wp2
  go_step3
  go_wp2
  go_loopw [11] (fun v wr => ∃ k : Nat, k ≤ ps.length ∧ v = .int .i64 k ∧ (∀ m, m < k → earB ps m = false) ∧ Below w.heap.size w wr) (fun v _ => ps.length - (intOf v).toNat)
  case atStart => exact ⟨0, Nat.zero_le _, rfl, fun m hm => absurd hm (by omega), Below.refl _ _⟩
  case round =>
    obtain ⟨k, hk, rfl, hall, hB⟩ := hrel
    have HB := Lib.hid hB
    have HALL := Lib.hid hall
    clear hB hall
    by_cases hlt : k < ps.length
    · have hkl : (k : Int) < ps.length := by omega
      have HPR := Lib.hid (prow_below HP.out HB.out)
      go_wp2_with fail
      refine (triAt_is ao ps.length cap k ps wr rfl hlt hle HPR.out).mono ?_
      rintro e w1 ⟨rfl, hw1⟩
      have hbl : w1.heap[wr.heap.size]? = some (.cells (six (triP ps k)) 35 (0, 0)) := by rw [hw1]; exact blk_new _ _ _ rfl
      have hB1 : Below wr.heap.size wr w1 := by rw [hw1]; exact belA (Below.refl _ wr).drew _
      clear hw1
      have HB1 := Lib.hid (HB.out.trans (hB1.mono HB.out.size))
      -- the triangle's corners
      have VT : ∀ m, m < 3 → InV (cx (triP ps k) m) ∧ InV (cy (triP ps k) m) := fun m hm => by
        match m, hm with
        | 0, _ => exact HV.out _ (pv_lt (by omega))
        | 1, _ => exact HV.out _ hlt
        | 2, _ => exact HV.out _ (nx_lt (by omega))
      have hTP : Hid (∀ r, okE ps k r = (r == pv ps.length k || (r == k || (r == nx ps.length k || !(decide (0 ≤ det (cx (triP ps k) 0) (cy (triP ps k) 0) (cx (triP ps k) 1) (cy (triP ps k) 1) (cx ps r) (cy ps r)) && (decide (0 ≤ det (cx (triP ps k) 1) (cy (triP ps k) 1) (cx (triP ps k) 2) (cy (triP ps k) 2) (cx ps r) (cy ps r)) && decide (0 ≤ det (cx (triP ps k) 2) (cy (triP ps k) 2) (cx (triP ps k) 0) (cy (triP ps k) 0) (cx ps r) (cy ps r)))))))) := Lib.hid fun r => rfl
      have hED : Hid (earD ps k = det (cx (triP ps k) 0) (cy (triP ps k) 0) (cx (triP ps k) 1) (cy (triP ps k) 1) (cx (triP ps k) 2) (cy (triP ps k) 2)) := Lib.hid rfl
      have V0 := VT 0 (by omega)
      have V1 := VT 1 (by omega)
      have V2 := VT 2 (by omega)
      unfold six at hbl
      clear VT
      generalize cx (triP ps k) 0 = a1 at *
      generalize cy (triP ps k) 0 = a2 at *
      generalize cx (triP ps k) 1 = b1 at *
      generalize cy (triP ps k) 1 = b2 at *
      generalize cx (triP ps k) 2 = c1 at *
      generalize cy (triP ps k) 2 = c2 at *
      obtain ⟨d, hd⟩ : ∃ d, det a1 a2 b1 b2 c1 c2 = d := ⟨_, rfl⟩
      have HD := Lib.hid (hED.out.trans hd)
      have C := Lib.hid (fun W => cross_gr a1 a2 b1 b2 c1 c2 d W V0.1 V0.2 V1.1 V1.2 V2.1 V2.2 (Lib.hid hd))
      have HVT := Lib.hid (And.intro V0 (And.intro V1 V2))
      clear hd hED V0 V1 V2
      have hz := blk_lt hbl
      generalize hzt : wr.heap.size = zt at *
      have HBT := Lib.hid hbl
      have x0 := blk_cell hbl 0 _ rfl
      have x1 := blk_cell hbl 1 _ rfl
      have x2 := blk_cell hbl 2 _ rfl
      have x3 := blk_cell hbl 3 _ rfl
      have x4 := blk_cell hbl 4 _ rfl
      have x5 := blk_cell hbl 5 _ rfl
      have G0 := fun n os => cell_grown (n := n) (os := os) hz x0
      have G1 := fun n os => cell_grown (n := n) (os := os) hz x1
      have G2 := fun n os => cell_grown (n := n) (os := os) hz x2
      have G3 := fun n os => cell_grown (n := n) (os := os) hz x3
      have G4 := fun n os => cell_grown (n := n) (os := os) hz x4
      have G5 := fun n os => cell_grown (n := n) (os := os) hz x5
      clear x0 x1 x2 x3 x4 x5 hbl hB1
      have HZT := Lib.hid hzt
      clear hzt
      by_cases hs : d ≤ 0
      · have HN : Hid (earB ps k = false) := Lib.hid (by unfold earB; rw [HD.out, decide_eq_false (by omega)]; rfl)
        go_wp2_with fail
        refine wq_region mixedP (by kernel_rfl) ?_
        repeat (refine wq_step (fun K hK => ?_); go_simp; first | (refine hK _ ?_; clear hK K) | (apply Exists.intro; refine ⟨fun _ => ?_, hK _ ?_⟩; (first | (go_at_call 62; with_reducible refine Calls.grown_of (C.out _))); clear hK K))
        refine wq_nil ?_
        intro _ hw'
        obtain ⟨⟨nq, osq⟩, hw''⟩ := hw'
        subst hw''
        go_wp2
        go_roundw
        case rel => exact ⟨k + 1, by omega, by go_num, fun m hm => by
          rcases Nat.lt_or_ge m k with g | g
          · exact HALL.out m g
          · rw [show m = k by omega]; exact HN.out, HB1.out.trans ((below_gr _ _ _).mono HB1.out.size)⟩
        case measure => simp [intOf]; omega
      · go_wp2_with fail
        refine wq_region mixedP (by kernel_rfl) ?_
        repeat (refine wq_step (fun K hK => ?_); go_simp; first | (refine hK _ ?_; clear hK K) | (apply Exists.intro; refine ⟨fun _ => ?_, hK _ ?_⟩; (first | (go_at_call 62; with_reducible refine Calls.grown_of (C.out _))); clear hK K))
        refine wq_nil ?_
        intro _ hw'
        obtain ⟨⟨nq, osq⟩, hw''⟩ := hw'
        subst hw''
        have hbt2 := blk_call HBT.out (below_gr w1 nq osq)
        have HB2 := Lib.hid (HB1.out.trans ((below_gr w1 nq osq).mono HB1.out.size))
        clear G0 G1 G2 G3 G4 G5 C HBT HB1 hz
        generalize Sort.grow (w1.drewN nq) osq = w2 at *
        have HBT2 := Lib.hid hbt2
        clear hbt2
        go_wp2_with fail
        have hzt2 := blk_lt HBT2.out
        have HD2 : Hid (0 < earD ps k) := Lib.hid (by rw [HD.out]; omega)
        go_loopw [30] (fun v wr => ∃ m : Nat, m ≤ ps.length ∧ v = .int .i64 m ∧ (∀ r, r < m → okE ps k r = true) ∧ Below w2.heap.size w2 wr) (fun v _ => ps.length - (intOf v).toNat)
        case atStart => exact ⟨0, Nat.zero_le _, rfl, fun m hm => absurd hm (by omega), Below.refl _ _⟩
        case round =>
          obtain ⟨m, hm, rfl, hall2, hB3⟩ := hrel
          have HALL2 := Lib.hid hall2
          have HB3 := Lib.hid hB3
          clear hall2 hB3
          by_cases hlm : m < ps.length
          · obtain ⟨b, o, rfl, y1, y2⟩ := prow_at (prow_below HP.out (HB2.out.trans (HB3.out.mono HB2.out.size))) hlm
            have VM := HV.out m hlm
            have OK := hTP.out m
            generalize cx ps m = p1 at *
            generalize cy ps m = p2 at *
            obtain ⟨p, hp⟩ : ∃ p, pv ps.length k = p := ⟨_, rfl⟩
            obtain ⟨q, hq⟩ : ∃ q, nx ps.length k = q := ⟨_, rfl⟩
            rw [hp, hq] at OK
            have Hp : Hid ((k + ps.length - 1) % ps.length = p) := Lib.hid hp
            have Hq : Hid ((k + 1) % ps.length = q) := Lib.hid hq
            obtain ⟨t, ht⟩ : ∃ t, (decide (0 ≤ det a1 a2 b1 b2 p1 p2) && (decide (0 ≤ det b1 b2 c1 c2 p1 p2) && decide (0 ≤ det c1 c2 a1 a2 p1 p2))) = t := ⟨_, rfl⟩
            rw [ht] at OK
            have HTT := Lib.hid ht
            have HOK := Lib.hid OK
            clear hp hq ht OK
            have hml : (m : Int) < ps.length := by omega
            -- the world in which the corner lies in its box
            have hb1 := belA HB3.out (.cells #[.int .i64 p1, .int .i64 p2] 35)
            have hbl := blk_new wr (.cells #[.int .i64 p1, .int .i64 p2] 35) wr.heap.size rfl
            have hbt3 := blk_alloc (blk_call HBT2.out HB3.out) (.cells #[.int .i64 p1, .int .i64 p2] 35)
            have HBN : Hid (Below w2.heap.size w2 (wr.alloc (.cells #[.int .i64 p1, .int .i64 p2] 35))) := Lib.hid hb1
            have HMM := Lib.hid hmx
            by_cases hmp : m = p
            · have HK1 := Lib.hid (show okE ps k m = true by rw [HOK.out, hmp]; simp)
              have e1 : ((m : Int) == (p : Int)) = true := by rw [beq_iff_eq]; omega
              have HNM := Lib.hid hmp
              clear hmp
              go_wp2_with (first | (go_at_call 75; refine (prev_is _ _ _ _ _ _ (by omega) hle (by omega) Hp).mono ?_; rintro e wx ⟨rfl, rfl⟩) | (go_at_call 64; refine (hnext_is _ _ _ _ _ _ (by omega) hle (by omega) Hq).mono ?_; rintro e wx ⟨rfl, rfl⟩))
              generalize wr.alloc (.cells #[.int .i64 p1, .int .i64 p2] 35) = w3 at *
              go_roundw
              case rel => exact ⟨m + 1, by omega, by go_num, fun r hr => by
                rcases Nat.lt_or_ge r m with g | g
                · exact HALL2.out r g
                · rw [show r = m by omega]; exact HK1.out, HBN.out⟩
              case measure => simp [intOf]; omega
            by_cases hmk : m = k
            · have HK1 := Lib.hid (show okE ps k m = true by rw [HOK.out, hmk]; simp)
              have e1 : ((m : Int) == (p : Int)) = false := by rw [beq_eq_false_iff_ne]; omega
              have e2 : ((m : Int) == (k : Int)) = true := by rw [beq_iff_eq]; omega
              have HNM := Lib.hid hmk
              clear hmk
              go_wp2_with (first | (go_at_call 75; refine (prev_is _ _ _ _ _ _ (by omega) hle (by omega) Hp).mono ?_; rintro e wx ⟨rfl, rfl⟩) | (go_at_call 64; refine (hnext_is _ _ _ _ _ _ (by omega) hle (by omega) Hq).mono ?_; rintro e wx ⟨rfl, rfl⟩))
              generalize wr.alloc (.cells #[.int .i64 p1, .int .i64 p2] 35) = w3 at *
              go_roundw
              case rel => exact ⟨m + 1, by omega, by go_num, fun r hr => by
                rcases Nat.lt_or_ge r m with g | g
                · exact HALL2.out r g
                · rw [show r = m by omega]; exact HK1.out, HBN.out⟩
              case measure => simp [intOf]; omega
            by_cases hmq : m = q
            · have HK1 := Lib.hid (show okE ps k m = true by rw [HOK.out, hmq]; simp)
              have e1 : ((m : Int) == (p : Int)) = false := by rw [beq_eq_false_iff_ne]; omega
              have e2 : ((m : Int) == (k : Int)) = false := by rw [beq_eq_false_iff_ne]; omega
              have e3 : ((m : Int) == (q : Int)) = true := by rw [beq_iff_eq]; omega
              have HNM := Lib.hid hmq
              clear hmq
              go_wp2_with (first | (go_at_call 75; refine (prev_is _ _ _ _ _ _ (by omega) hle (by omega) Hp).mono ?_; rintro e wx ⟨rfl, rfl⟩) | (go_at_call 64; refine (hnext_is _ _ _ _ _ _ (by omega) hle (by omega) Hq).mono ?_; rintro e wx ⟨rfl, rfl⟩))
              generalize wr.alloc (.cells #[.int .i64 p1, .int .i64 p2] 35) = w3 at *
              go_roundw
              case rel => exact ⟨m + 1, by omega, by go_num, fun r hr => by
                rcases Nat.lt_or_ge r m with g | g
                · exact HALL2.out r g
                · rw [show r = m by omega]; exact HK1.out, HBN.out⟩
              case measure => simp [intOf]; omega
            have e1 : ((m : Int) == (p : Int)) = false := by rw [beq_eq_false_iff_ne]; omega
            have e2 : ((m : Int) == (k : Int)) = false := by rw [beq_eq_false_iff_ne]; omega
            have e3 : ((m : Int) == (q : Int)) = false := by rw [beq_eq_false_iff_ne]; omega
            have HK1 := Lib.hid (show okE ps k m = !t by rw [HOK.out, show (m == p) = false by rw [beq_eq_false_iff_ne]; exact hmp, show (m == k) = false by rw [beq_eq_false_iff_ne]; exact hmk, show (m == q) = false by rw [beq_eq_false_iff_ne]; exact hmq]; simp)
            clear hmp hmk hmq
            go_wp2_with (first | (go_at_call 75; refine (prev_is _ _ _ _ _ _ (by omega) hle (by omega) Hp).mono ?_; rintro e wx ⟨rfl, rfl⟩) | (go_at_call 64; refine (hnext_is _ _ _ _ _ _ (by omega) hle (by omega) Hq).mono ?_; rintro e wx ⟨rfl, rfl⟩))
            generalize wr.alloc (.cells #[.int .i64 p1, .int .i64 p2] 35) = w3 at *
            have xc0 := blk_cell hbl 0 _ rfl
            have xc1 := blk_cell hbl 1 _ rfl
            have zc := blk_lt hbl
            have zt3 := blk_lt hbt3
            generalize wr.heap.size = zq at *
            have HC := Lib.hid (contains_gr zt 3 a1 a2 b1 b2 c1 c2 p1 p2 t w3 HVT.out.1.1 HVT.out.1.2 HVT.out.2.1.1 HVT.out.2.1.2 HVT.out.2.2.1 HVT.out.2.2.2 VM.1 VM.2 HTT zt3 (blk_cell hbt3 0 _ rfl) (blk_cell hbt3 1 _ rfl) (blk_cell hbt3 2 _ rfl) (blk_cell hbt3 3 _ rfl) (blk_cell hbt3 4 _ rfl) (blk_cell hbt3 5 _ rfl))
            clear xc0 xc1 hbl hbt3
            cases t with
            | true =>
              have HN := Lib.hid (earB_no hlm HK1.out)
              refine HC.out.mono ?_
              rintro e wx ⟨rfl, nq, osq, rfl⟩
              go_wp2
              go_roundw
              case rel => exact ⟨k + 1, by omega, by go_num, fun m hm => by
                rcases Nat.lt_or_ge m k with g | g
                · exact HALL.out m g
                · rw [show m = k by omega]; exact HN.out, HB2.out.trans ((HBN.out.trans ((below_gr _ _ _).mono HBN.out.size)).mono HB2.out.size)⟩
              case measure => simp [intOf]; omega
            | false =>
              refine HC.out.mono ?_
              rintro e wx ⟨rfl, nq, osq, rfl⟩
              go_wp2
              go_roundw
              case rel => exact ⟨m + 1, by omega, by go_num, fun r hr => by
                rcases Nat.lt_or_ge r m with g | g
                · exact HALL2.out r g
                · rw [show r = m by omega]; exact HK1.out, HBN.out.trans ((below_gr _ _ _).mono HBN.out.size)⟩
              case measure => simp [intOf]; omega
          · have HE := Lib.hid (firstE_some hlt HALL.out (earB_yes HD2.out fun r hr => HALL2.out r (by omega)))
            have hml : ¬ (m : Int) < ps.length := by omega
            go_wp2
            refine bodyPost_ret (v := .tuple #[.int .i64 (k : Int), .bool true]) (by simp [results, Try.results66, go_sem]) rfl ?_
            exact ⟨.inl ⟨k, hlt, HE.out, rfl⟩, HB2.out.trans (HB3.out.mono HB2.out.size)⟩
    · have HN := Lib.hid (firstE_none fun m hm => HALL.out m (by omega))
      have hkl : ¬ (k : Int) < ps.length := by omega
      go_wp2
      refine bodyPost_ret (v := .tuple #[.int .i64 0, .bool false]) (by simp [results, Try.results66, go_sem]) rfl ?_
      exact ⟨.inr ⟨HN.out, rfl⟩, HB.out⟩
end Go.Proofs.Ytnpadblfpaiofaa
