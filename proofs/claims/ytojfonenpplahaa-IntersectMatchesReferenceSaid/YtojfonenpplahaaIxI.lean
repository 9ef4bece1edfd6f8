/- Contracts of the reference ambidexterref05: next, Convex; of Small of the statements. Conditions: the slice reads as the list says; the coordinates are bounded. -/
import Derived.Test.YtojfonenpplahaaIxF
import Derived.Test.YtojfonenpplahaaHw
import Derived.Test.YtojfonenpplahaaHr
import Derived.Test.YtojfonenpplahaaHs
import Derived.WalkMore
namespace Go.Proofs.Ytojfonenpplahaa
open Go.ChangeShapes Go.WideShapes Go.ChangeAt Go.RowKit
set_option linter.unusedVariables false
set_option linter.unusedSimpArgs false

theorem InV.iny {x : Int} (h : InV x) : InY x := h
theorem AllV.r2 {l : List (Int × Int)} (h : AllV l) : AllR2 l := fun i hi => ⟨(h i hi).1.inr, (h i hi).2.inr⟩

theorem rnext_is (ao : Option Addr) (n cap k j : Nat) (w : World) (hn : 0 < n) (hn' : n ≤ 1000000) (hk : k ≤ 1000000) (hj : Hid ((k + 1) % n = j)) :
    Calls Try.prog 69 #[.slice ao n cap, .int .i64 (k : Int)] w fun e w' => e = .returned (.int .i64 (j : Int)) ∧ Below w.heap.size w w' := by
  have h0 : (n : Int) ≠ 0 := by omega
  have ht : ((k : Int) + 1).tmod (n : Int) = (j : Int) := by
    rw [← hj.out, Int.tmod_eq_emod_of_nonneg (by omega)]; simp
  go_enter Try.func69, Try.ntmps69
  go_wp2
  go_ret
  exact ⟨rfl, Below.refl _ _⟩

theorem small_is (ao : Option Addr) (n cap : Nat) (ps : List (Int × Int)) (t : Bool) (w : World) (hn : ps.length = n) (ht : Hid (validP ps = t)) (hle : n ≤ 9223372036854775807) (hP : PRow w ao ps) :
    Calls Try.prog 25 #[.slice ao n cap] w fun e w' => e = .returned (.bool t) ∧ Below w.heap.size w w' := by
  subst hn
  by_cases h12 : ps.length ≤ 12
  · have h12i : (ps.length : Int) ≤ 12 := by omega
    have h12d : decide ((ps.length : Int) ≤ 12) = true := decide_eq_true h12i
    go_enter Try.func25, Try.ntmps25
    go_wp2_with (go_at_call 39; refine (right_is ao ps.length cap ps t _ rfl ht hle hP).mono ?_; rintro e w1 ⟨rfl, hb⟩)
    go_ret
    exact ⟨rfl, hb⟩
  · have HE : t = false := by
      rw [← ht.out]
      refine b_no fun k => h12 ?_
      unfold validP at k
      rw [Bool.and_eq_true] at k
      exact ((validC_iff ps).1 k.1).2.1
    subst HE
    have h12i : ¬ (ps.length : Int) ≤ 12 := by omega
    have h12d : decide ((ps.length : Int) ≤ 12) = false := decide_eq_false h12i
    clear ht
    go_enter Try.func25, Try.ntmps25
    go_wp2_with fail
    go_ret
    exact ⟨rfl, Below.refl _ _⟩

theorem ori_lt (a b c d p q : Int) : decide (ori a b c d p q < 0) = decide (det a b c d p q < 0) := by
  have := ori_nng a b c d p q
  by_cases h : 0 ≤ ori a b c d p q
  · have g : 0 ≤ det a b c d p q := by rw [decide_eq_true h] at this; exact of_decide_eq_true this.symm
    rw [decide_eq_false (by omega), decide_eq_false (by omega)]
  · have g : ¬ 0 ≤ det a b c d p q := by rw [decide_eq_false h] at this; exact of_decide_eq_false this.symm
    rw [decide_eq_true (by omega), decide_eq_true (by omega)]
/-- Is corner k right of edge i? -/
def badE (ps : List (Int × Int)) (i k : Nat) : Bool := decide (ori (cx ps i) (cy ps i) (cx ps (nx ps.length i)) (cy ps (nx ps.length i)) (cx ps k) (cy ps k) < 0)
theorem weakB_bad {ps : List (Int × Int)} : (∀ i, i < ps.length → ∀ k, k < ps.length → badE ps i k = false) ↔ weakB ps = true := by
  unfold weakB badE
  simp only [List.all_eq_true, List.mem_range, decide_eq_true_eq, ori_lt, decide_eq_false_iff_not]
  exact ⟨fun h i hi k hk => Int.not_lt.1 (h i hi k hk), fun h i hi k hk => Int.not_lt.2 (h i hi k hk)⟩

set_option maxRecDepth 100000 in
set_option maxHeartbeats 8000000 in
theorem cvx_is (ao : Option Addr) (n cap : Nat) (ps : List (Int × Int)) (t : Bool) (w : World) (hn : ps.length = n) (ht : Hid (weakB ps = t)) (h12 : n ≤ 12) (hP : PRow w ao ps) (hV : AllV ps) :
    Calls Try.prog 33 #[.slice ao n cap] w fun e w' => e = .returned (.bool t) ∧ Below w.heap.size w w' := by
  subst hn
  have HP := Lib.hid hP
  have HV := Lib.hid hV
  clear hP hV
  go_enter Try.func33, Try.ntmps33
  go_wp2_with fail
  go_loopw [3] (fun i wr => ∃ k : Nat, k ≤ ps.length ∧ i = .int .i64 k ∧ Hid (∀ i, i < k → ∀ m, m < ps.length → badE ps i m = false) ∧ Below w.heap.size w wr) (fun i _ => ps.length - (intOf i).toNat)
  case atStart => exact ⟨0, Nat.zero_le _, rfl, Lib.hid (fun j hj => by omega), Below.refl _ _⟩
  case round =>
    obtain ⟨i, hi, rfl, HF, hB⟩ := hrel
    by_cases hlt : i < ps.length
    · have hii : (i : Int) < ps.length := by omega
      obtain ⟨j, hj⟩ : ∃ j, nx ps.length i = j := ⟨_, rfl⟩
      have hjl : j < ps.length := by rw [← hj]; exact nx_lt' hlt
      have hji : (j : Int) < ps.length := by omega
      have HJ : Hid ((i + 1) % ps.length = j) := Lib.hid hj
      have hHB := Lib.hid hB
      go_wp2_with fail
      go_loopw [4] (fun i' wr => ∃ k : Nat, k ≤ ps.length ∧ i' = .int .i64 k ∧ Hid (∀ m, m < k → badE ps i m = false) ∧ Below w.heap.size w wr) (fun i _ => ps.length - (intOf i).toNat)
      case atStart => exact ⟨0, Nat.zero_le _, rfl, Lib.hid (fun j hj => by omega), hB⟩
      case round =>
        obtain ⟨k, hk, rfl, HM, hBx⟩ := hrel
        by_cases hkl : k < ps.length
        · have hki : (k : Int) < ps.length := by omega
          obtain ⟨b, b0, rfl, c1, c2⟩ := prow_at HP.out hlt
          obtain ⟨b', b0', ho', c3, c4⟩ := prow_at HP.out hjl
          obtain ⟨rfl, rfl⟩ : b = b' ∧ b0 = b0' := by simpa using ho'
          clear ho'
          obtain ⟨b', b0', ho', c5, c6⟩ := prow_at HP.out hkl
          obtain ⟨rfl, rfl⟩ : b = b' ∧ b0 = b0' := by simpa using ho'
          clear ho'
          obtain ⟨i1, i2⟩ := HV.out i hlt
          obtain ⟨i3, i4⟩ := HV.out j hjl
          obtain ⟨i5, i6⟩ := HV.out k hkl
          have d1 := (hBx.cell (World.block_lt_of_cell? w _ c1)).trans c1
          have zb : b < wr.heap.size := World.block_lt_of_cell? wr ⟨b, b0 + i * 2, none⟩ d1
          have G1 := fun p => cell_blw (w := wr) (a := ⟨b, b0 + i * 2, none⟩) zb d1 p
          have G2 := fun p => cell_blw (w := wr) (a := ⟨b, b0 + i * 2 + 1, none⟩) zb ((hBx.cell (World.block_lt_of_cell? w _ c2)).trans c2) p
          have G3 := fun p => cell_blw (w := wr) (a := ⟨b, b0 + j * 2, none⟩) zb ((hBx.cell (World.block_lt_of_cell? w _ c3)).trans c3) p
          have G4 := fun p => cell_blw (w := wr) (a := ⟨b, b0 + j * 2 + 1, none⟩) zb ((hBx.cell (World.block_lt_of_cell? w _ c4)).trans c4) p
          have G5 := fun p => cell_blw (w := wr) (a := ⟨b, b0 + k * 2, none⟩) zb ((hBx.cell (World.block_lt_of_cell? w _ c5)).trans c5) p
          have G6 := fun p => cell_blw (w := wr) (a := ⟨b, b0 + k * 2 + 1, none⟩) zb ((hBx.cell (World.block_lt_of_cell? w _ c6)).trans c6) p
          obtain ⟨o, ho⟩ : ∃ o, ori (cx ps i) (cy ps i) (cx ps j) (cy ps j) (cx ps k) (cy ps k) = o := ⟨_, rfl⟩
          have HO := Lib.hid ho
          have HBD : Hid (badE ps i k = decide (o < 0)) := Lib.hid (by unfold badE; rw [hj, ho])
          generalize cx ps i = x1 at *
          generalize cy ps i = x2 at *
          generalize cx ps j = y1 at *
          generalize cy ps j = y2 at *
          generalize cx ps k = u1 at *
          generalize cy ps k = u2 at *
          have C := Lib.hid (fun p : BlwBy wr => rside_is x1 x2 y1 y2 u1 u2 o p.x i1 i2 i3 i4 i5 i6 HO)
          have CN := Lib.hid (fun p : BlwBy wr => rnext_is (some ⟨b, b0, none⟩) ps.length cap i j p.x (by omega) (by omega) (by omega) HJ)
          have HBX := Lib.hid hBx
          clear c1 c2 c3 c4 c5 c6 d1 ho hj i1 i2 i3 i4 i5 i6 HO HJ hBx hB
          go_upto_region 7 with fail
          refine wb_region mixedP (by kernel_rfl) ?_
          repeat (refine wq_step (fun K hK => ?_); go_simp; first | (refine hK _ ?_; clear hK K) | (apply Exists.intro; refine ⟨fun _ => ?_, hK _ ?_⟩; (first | (go_at_call 69; refine Calls.blw_of (CN.out _)) | (go_at_call 71; refine Calls.blw_of (C.out _))); clear hK K))
          refine wq_nil ?_
          intro _ hw'
          obtain ⟨pb, hw''⟩ := hw'
          subst hw''
          have HB3 := Lib.hid (HBX.out.trans (pb.hb.mono HBX.out.size))
          clear G1 G2 G3 G4 G5 G6 C CN HBX zb
          obtain ⟨w5, hb5⟩ := pb
          change Hid (Below w.heap.size w w5) at HB3
          dsimp only
          by_cases hn : o < 0
          · have HE : Hid (t = false) := Lib.hid (by
              rw [← ht.out]
              refine b_no fun g => ?_
              have := weakB_bad.2 g i hlt k hkl
              rw [HBD.out, decide_eq_true hn] at this
              cases this)
            go_wp2_with fail
            go_ret
            exact ⟨ret_bool HE.out.symm, HB3.out⟩
          · have HMK : Hid (badE ps i k = false) := Lib.hid (by rw [HBD.out, decide_eq_false hn])
            go_wp2_with fail
            go_roundw
            case rel => exact ⟨k + 1, by omega, by go_num, Lib.hid (fun m hm => by
              by_cases e : m = k
              · subst e; exact HMK.out
              · exact HM.out m (by omega)), HB3.out⟩
            case measure => simp [intOf]; omega
        · have hkli : ¬ (k : Int) < ps.length := by omega
          have HB3 := Lib.hid hBx
          have HFN : Hid (∀ i', i' < i + 1 → ∀ m, m < ps.length → badE ps i' m = false) := Lib.hid (fun i' hi' => by
            by_cases e : i' = i
            · subst e; exact fun m hm => HM.out m (by omega)
            · exact HF.out i' (by omega))
          clear HM HF hBx hB
          go_wp2_with fail
          go_roundw
          case rel => exact ⟨i + 1, by omega, by go_num, HFN, HB3.out⟩
          case measure => simp [intOf]; omega
    · have HE : Hid (t = true) := Lib.hid (by rw [← ht.out]; exact weakB_bad.1 fun i' hi' => HF.out i' (by omega))
      have hil : ¬ (i : Int) < ps.length := by omega
      have HB3 := Lib.hid hB
      clear HF hB
      go_wp2_with fail
      go_ret
      exact ⟨ret_bool HE.out.symm, HB3.out⟩
end Go.Proofs.Ytojfonenpplahaa
