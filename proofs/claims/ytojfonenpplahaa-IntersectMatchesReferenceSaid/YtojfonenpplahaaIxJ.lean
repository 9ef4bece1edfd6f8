/- Contracts of the reference of layer 5: beyond, Holds. Conditions: the slices read as the lists say; the coordinates are bounded as a valid polygon's. -/
import Derived.Test.YtojfonenpplahaaIxI
namespace Go.Proofs.Ytojfonenpplahaa
open Go.ChangeShapes Go.WideShapes Go.ChangeAt Go.RowKit
set_option linter.unusedVariables false
set_option linter.unusedSimpArgs false

theorem ori_m1 (a b c d p q : Int) : (ori a b c d p q = -1) ↔ det a b c d p q < 0 := by
  rw [ori_cmp]
  rcases Int.lt_trichotomy (det a b c d p q) 0 with g | g | g
  · rw [cmpI_lt g]; omega
  · rw [cmpI_eq g]; omega
  · rw [cmpI_gt g]; omega
/-- Is corner j of b strictly right of edge i of a? -/
def lefE (a b : List (Int × Int)) (i j : Nat) : Bool := decide (ori (cx a i) (cy a i) (cx a (nx a.length i)) (cy a (nx a.length i)) (cx b j) (cy b j) = -1)
theorem lefE_all {a b : List (Int × Int)} {i : Nat} : (∀ j, j < b.length → lefE a b i j = true) ↔ rightB a b i = true := by
  unfold rightB lefE
  simp only [List.all_eq_true, List.mem_range, decide_eq_true_eq, ori_m1]
  exact ⟨fun h j hj => h j hj, fun h j hj => h j hj⟩

set_option maxRecDepth 100000 in
set_option maxHeartbeats 8000000 in
theorem beyond_is (ao bo : Option Addr) (n m ca cb i : Nat) (a b : List (Int × Int)) (t : Bool) (w : World) (hn : a.length = n) (hm : b.length = m) (ht : Hid (rightB a b i = t)) (hi : i < n) (hle : n ≤ 12) (hle' : m ≤ 12) (hA : PRow w ao a) (hB : PRow w bo b) (va : AllV a) (vb : AllV b) :
    Calls Try.prog 66 #[.slice ao n ca, .int .i64 (i : Int), .slice bo m cb] w fun e w' => e = .returned (.bool t) ∧ Below w.heap.size w w' := by
  subst hn hm
  have PB := Lib.hid hB
  have VB := Lib.hid vb
  obtain ⟨j, hj⟩ : ∃ j, nx a.length i = j := ⟨_, rfl⟩
  have hjl : j < a.length := by rw [← hj]; exact nx_lt' hi
  have hii : (i : Int) < a.length := by omega
  have hji : (j : Int) < a.length := by omega
  have HJ : Hid ((i + 1) % a.length = j) := Lib.hid hj
  obtain ⟨g, g0, rfl, c1, c2⟩ := prow_at hA hi
  obtain ⟨b', b0', ho', c3, c4⟩ := prow_at hA hjl
  obtain ⟨rfl, rfl⟩ : g = b' ∧ g0 = b0' := by simpa using ho'
  clear ho'
  obtain ⟨i1, i2⟩ := va i hi
  obtain ⟨i3, i4⟩ := va j hjl
  have HLE : Hid (∀ k, lefE a b i k = decide (ori (cx a i) (cy a i) (cx a j) (cy a j) (cx b k) (cy b k) = -1)) := Lib.hid (fun k => by unfold lefE; rw [hj])
  have HR := Lib.hid (lefE_all (a := a) (b := b) (i := i))
  clear hA hB va vb hj
  generalize cx a i = x1 at *
  generalize cy a i = x2 at *
  generalize cx a j = y1 at *
  generalize cy a j = y2 at *
  have C1 := Lib.hid c1
  have C2 := Lib.hid c2
  have C3 := Lib.hid c3
  have C4 := Lib.hid c4
  clear c1 c2 c3 c4
  go_enter Try.func66, Try.ntmps66
  go_wp2_with fail
  go_loopw [7] (fun i' wr => ∃ k : Nat, k ≤ b.length ∧ i' = .int .i64 k ∧ Hid (∀ m, m < k → lefE a b i m = true) ∧ Below w.heap.size w wr) (fun i _ => b.length - (intOf i).toNat)
  case atStart => exact ⟨0, Nat.zero_le _, rfl, Lib.hid (fun j hj => by omega), Below.refl _ _⟩
  case round =>
    obtain ⟨k, hk, rfl, HM, hBx⟩ := hrel
    by_cases hkl : k < b.length
    · have hki : (k : Int) < b.length := by omega
      obtain ⟨b2, o2, rfl, c5, c6⟩ := prow_at PB.out hkl
      obtain ⟨i5, i6⟩ := VB.out k hkl
      have d1 := (hBx.cell (World.block_lt_of_cell? w _ C1.out)).trans C1.out
      have zb : g < wr.heap.size := World.block_lt_of_cell? wr ⟨g, g0 + i * 2, none⟩ d1
      have d5 := (hBx.cell (World.block_lt_of_cell? w _ c5)).trans c5
      have zb2 : b2 < wr.heap.size := World.block_lt_of_cell? wr ⟨b2, o2 + k * 2, none⟩ d5
      have G1 := fun p => cell_blw (w := wr) (a := ⟨g, g0 + i * 2, none⟩) zb d1 p
      have G2 := fun p => cell_blw (w := wr) (a := ⟨g, g0 + i * 2 + 1, none⟩) zb ((hBx.cell (World.block_lt_of_cell? w _ C2.out)).trans C2.out) p
      have G3 := fun p => cell_blw (w := wr) (a := ⟨g, g0 + j * 2, none⟩) zb ((hBx.cell (World.block_lt_of_cell? w _ C3.out)).trans C3.out) p
      have G4 := fun p => cell_blw (w := wr) (a := ⟨g, g0 + j * 2 + 1, none⟩) zb ((hBx.cell (World.block_lt_of_cell? w _ C4.out)).trans C4.out) p
      have G5 := fun p => cell_blw (w := wr) (a := ⟨b2, o2 + k * 2, none⟩) zb2 d5 p
      have G6 := fun p => cell_blw (w := wr) (a := ⟨b2, o2 + k * 2 + 1, none⟩) zb2 ((hBx.cell (World.block_lt_of_cell? w _ c6)).trans c6) p
      obtain ⟨o, ho⟩ : ∃ o, ori x1 x2 y1 y2 (cx b k) (cy b k) = o := ⟨_, rfl⟩
      have HO := Lib.hid ho
      have HBD : Hid (lefE a b i k = decide (o = -1)) := Lib.hid (by rw [HLE.out, ho])
      generalize cx b k = u1 at *
      generalize cy b k = u2 at *
      have C := Lib.hid (fun p : BlwBy wr => rside_is x1 x2 y1 y2 u1 u2 o p.x i1 i2 i3 i4 i5 i6 HO)
      have CN := Lib.hid (fun p : BlwBy wr => rnext_is (some ⟨g, g0, none⟩) a.length ca i j p.x (by omega) (by omega) (by omega) HJ)
      have HBX := Lib.hid hBx
      clear c5 c6 d1 d5 ho i5 i6 HO hBx
      go_upto_region 4 with fail
      refine wb_region mixedP (by kernel_rfl) ?_
      repeat (refine wq_step (fun K hK => ?_); go_simp; first | (refine hK _ ?_; clear hK K) | (apply Exists.intro; refine ⟨fun _ => ?_, hK _ ?_⟩; (first | (go_at_call 69; refine Calls.blw_of (CN.out _)) | (go_at_call 71; refine Calls.blw_of (C.out _))); clear hK K))
      refine wq_nil ?_
      intro _ hw'
      obtain ⟨pb, hw''⟩ := hw'
      subst hw''
      have HB3 := Lib.hid (HBX.out.trans (pb.hb.mono HBX.out.size))
      clear G1 G2 G3 G4 G5 G6 C CN HBX zb zb2
      obtain ⟨w5, hb5⟩ := pb
      change Hid (Below w.heap.size w w5) at HB3
      dsimp only
      by_cases hn : o = -1
      · subst hn
        have HMK : Hid (lefE a b i k = true) := Lib.hid (by rw [HBD.out]; rfl)
        go_wp2_with fail
        go_roundw
        case rel => exact ⟨k + 1, by omega, by go_num, Lib.hid (fun m hm => by
          by_cases e : m = k
          · subst e; exact HMK.out
          · exact HM.out m (by omega)), HB3.out⟩
        case measure => simp [intOf]; omega
      · have hn0 : (o == -1) = false := by rw [beq_eq_false_iff_ne]; exact hn
        have HE : Hid (t = false) := Lib.hid (by
          rw [← ht.out]
          refine b_no fun q => ?_
          have := HR.out.2 q k hkl
          rw [HBD.out, decide_eq_false hn] at this
          cases this)
        go_wp2_with fail
        go_ret
        exact ⟨ret_bool HE.out.symm, HB3.out⟩
    · obtain rfl : k = b.length := by omega
      have HE : Hid (t = true) := Lib.hid (by rw [← ht.out]; exact HR.out.1 HM.out)
      have HB3 := Lib.hid hBx
      clear hBx
      go_wp2_with fail
      go_ret
      exact ⟨ret_bool HE.out.symm, HB3.out⟩
end Go.Proofs.Ytojfonenpplahaa
