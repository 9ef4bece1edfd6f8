/- Contract of the reference of layer 4: ear. Conditions: the slice reads as the list says; the coordinates are bounded. -/
import Derived.Test.YtnpadblfpaiofaaHmA
import Derived.Test.YtnpadblfpaiofaaHlK
namespace Go.Proofs.Ytnpadblfpaiofaa
open Go.ChangeShapes Go.WideShapes Go.ChangeAt Go.RowKit
set_option linter.unusedVariables false
set_option linter.unusedSimpArgs false

set_option maxRecDepth 100000 in
set_option maxHeartbeats 16000000 in
theorem ear4_is (ao : Option Addr) (n cap i : Nat) (ps : List (Int × Int)) (t : Bool) (w : World) (hn : ps.length = n) (ht : Hid (earB ps i = t)) (hi : i < n) (hle : n ≤ 1000) (hP : PRow w ao ps) (hV : AllV ps) :
    Calls Try.prog 52 #[.slice ao n cap, .int .i64 (i : Int)] w fun e w' => e = .returned (.bool t) ∧ Below w.heap.size w w' := by
  subst hn
  have HP := Lib.hid hP
  have HV := Lib.hid hV
  obtain ⟨a, ha⟩ : ∃ a, pv ps.length i = a := ⟨_, rfl⟩
  obtain ⟨j, hj⟩ : ∃ j, nx ps.length i = j := ⟨_, rfl⟩
  have hal : a < ps.length := by rw [← ha]; exact pv_lt (by omega)
  have hjl : j < ps.length := by rw [← hj]; exact nx_lt' hi
  have hii : (i : Int) < ps.length := by omega
  have hai : (a : Int) < ps.length := by omega
  have hji : (j : Int) < ps.length := by omega
  have hn0 : (ps.length : Int) ≠ 0 := by omega
  have hpe : ¬ ps = [] := fun e => by rw [e] at hi; simp at hi
  have tm1 : ((i : Int) + (ps.length : Int) - 1).tmod (ps.length : Int) = (a : Int) := by
    rw [← ha, Int.tmod_eq_emod_of_nonneg (by omega)]
    unfold pv
    rw [show (i : Int) + (ps.length : Int) - 1 = ((i + ps.length - 1 : Nat) : Int) by omega]
    simp
  have tm2 : ((i : Int) + 1).tmod (ps.length : Int) = (j : Int) := by
    rw [← hj, Int.tmod_eq_emod_of_nonneg (by omega)]; unfold nx; simp
  obtain ⟨b, b0, rfl, c1, c2⟩ := prow_at hP hal
  obtain ⟨b', b0', ho', c3, c4⟩ := prow_at hP hi
  obtain ⟨rfl, rfl⟩ : b = b' ∧ b0 = b0' := by simpa using ho'
  clear ho'
  obtain ⟨b', b0', ho', c5, c6⟩ := prow_at hP hjl
  obtain ⟨rfl, rfl⟩ : b = b' ∧ b0 = b0' := by simpa using ho'
  clear ho'
  obtain ⟨i1, i2⟩ := hV a hal
  obtain ⟨i3, i4⟩ := hV i hi
  obtain ⟨i5, i6⟩ := hV j hjl
  obtain ⟨D, hD⟩ : ∃ D, det (cx ps a) (cy ps a) (cx ps i) (cy ps i) (cx ps j) (cy ps j) = D := ⟨_, rfl⟩
  have HED : Hid (earD ps i = D) := Lib.hid (by rw [← hD, ← ha, ← hj]; rfl)
  have HOK : Hid (∀ k, okE ps i k = (k == a || (k == i || (k == j || !(decide (0 ≤ det (cx ps a) (cy ps a) (cx ps i) (cy ps i) (cx ps k) (cy ps k)) && (decide (0 ≤ det (cx ps i) (cy ps i) (cx ps j) (cy ps j) (cx ps k) (cy ps k)) && decide (0 ≤ det (cx ps j) (cy ps j) (cx ps a) (cy ps a) (cx ps k) (cy ps k)))))))) := Lib.hid (fun k => by unfold okE; rw [← ha, ← hj]; rfl)
  have HD := Lib.hid hD
  clear hD ha hj hP hV
  generalize cx ps a = a1 at *
  generalize cy ps a = a2 at *
  generalize cx ps i = x1 at *
  generalize cy ps i = x2 at *
  generalize cx ps j = y1 at *
  generalize cy ps j = y2 at *
  have CC := Lib.hid (And.intro c1 (And.intro c2 (And.intro c3 (And.intro c4 (And.intro c5 c6)))))
  have z0 : b < w.heap.size := World.block_lt_of_cell? w _ c1
  go_enter Try.func52, Try.ntmps52
  go_upto_region 4 with fail
  have G1 := fun p => cell_blw (w := w) (a := ⟨b, b0 + a * 2, none⟩) z0 c1 p
  have G2 := fun p => cell_blw (w := w) (a := ⟨b, b0 + a * 2 + 1, none⟩) z0 c2 p
  have G3 := fun p => cell_blw (w := w) (a := ⟨b, b0 + i * 2, none⟩) z0 c3 p
  have G4 := fun p => cell_blw (w := w) (a := ⟨b, b0 + i * 2 + 1, none⟩) z0 c4 p
  have G5 := fun p => cell_blw (w := w) (a := ⟨b, b0 + j * 2, none⟩) z0 c5 p
  have G6 := fun p => cell_blw (w := w) (a := ⟨b, b0 + j * 2 + 1, none⟩) z0 c6 p
  have C := Lib.hid (fun p : BlwBy w => side_is a1 a2 x1 x2 y1 y2 D p.x i1 i2 i3 i4 i5 i6 HD)
  clear c1 c2 c3 c4 c5 c6
  refine wb_region mixedP (by kernel_rfl) ?_
  repeat (refine wq_step (fun K hK => ?_); go_simp; first | (refine hK _ ?_; clear hK K) | (apply Exists.intro; refine ⟨fun _ => ?_, hK _ ?_⟩; (go_at_call 30; refine Calls.blw_of (C.out _)); clear hK K))
  refine wq_nil ?_
  intro _ hw'
  obtain ⟨pb, hw''⟩ := hw'
  subst hw''
  have HB1 := Lib.hid pb.hb
  clear G1 G2 G3 G4 G5 G6 C
  obtain ⟨w1, hb1⟩ := pb
  change Hid (Below w.heap.size w w1) at HB1
  dsimp only
  clear hb1
  by_cases hd : D ≤ 0
  · have HE : Hid (t = false) := Lib.hid (by rw [← ht.out]; unfold earB; rw [HED.out, decide_eq_false (by omega : ¬ 0 < D)]; rfl)
    go_wp2_with fail
    go_ret
    exact ⟨ret_bool HE.out.symm, HB1.out⟩
  · have HYS := Lib.hid (fun (h : ∀ k, k < ps.length → okE ps i k = true) => (by rw [← ht.out]; exact earB_yes (by rw [HED.out]; omega) h : t = true))
    have HNO := Lib.hid (fun (k : Nat) (hk : k < ps.length) (h : okE ps i k = false) => (by rw [← ht.out]; exact earB_no hk h : t = false))
    clear ht HED HD
    go_wp2_with fail
    go_loopw [9] (fun v wr => ∃ k : Nat, k ≤ ps.length ∧ v = .int .i64 k ∧ Hid (∀ m, m < k → okE ps i m = true) ∧ Below w.heap.size w wr) (fun v _ => ps.length - (intOf v).toNat)
    case atStart => exact ⟨0, Nat.zero_le _, rfl, Lib.hid (fun j hj => by omega), HB1.out⟩
    case round =>
      obtain ⟨k, hk, rfl, HM, hBx⟩ := hrel
      by_cases hkl : k < ps.length
      · have hki : (k : Int) < ps.length := by omega
        obtain ⟨b', b0', ho', c7, c8⟩ := prow_at HP.out hkl
        obtain ⟨rfl, rfl⟩ : b = b' ∧ b0 = b0' := by simpa using ho'
        clear ho'
        obtain ⟨c1, c2, c3, c4, c5, c6⟩ := CC.out
        obtain ⟨i7, i8⟩ := HV.out k hkl
        have zb : b < wr.heap.size := World.block_lt_of_cell? wr ⟨b, b0 + i * 2, none⟩ ((hBx.cell z0).trans c3)
        have G1 := fun p => cell_blw (w := wr) (a := ⟨b, b0 + a * 2, none⟩) zb ((hBx.cell z0).trans c1) p
        have G2 := fun p => cell_blw (w := wr) (a := ⟨b, b0 + a * 2 + 1, none⟩) zb ((hBx.cell z0).trans c2) p
        have G3 := fun p => cell_blw (w := wr) (a := ⟨b, b0 + i * 2, none⟩) zb ((hBx.cell z0).trans c3) p
        have G4 := fun p => cell_blw (w := wr) (a := ⟨b, b0 + i * 2 + 1, none⟩) zb ((hBx.cell z0).trans c4) p
        have G5 := fun p => cell_blw (w := wr) (a := ⟨b, b0 + j * 2, none⟩) zb ((hBx.cell z0).trans c5) p
        have G6 := fun p => cell_blw (w := wr) (a := ⟨b, b0 + j * 2 + 1, none⟩) zb ((hBx.cell z0).trans c6) p
        have G7 := fun p => cell_blw (w := wr) (a := ⟨b, b0 + k * 2, none⟩) zb ((hBx.cell z0).trans c7) p
        have G8 := fun p => cell_blw (w := wr) (a := ⟨b, b0 + k * 2 + 1, none⟩) zb ((hBx.cell z0).trans c8) p
        obtain ⟨s, hs⟩ : ∃ s, (decide (0 ≤ det a1 a2 x1 x2 (cx ps k) (cy ps k)) && (decide (0 ≤ det x1 x2 y1 y2 (cx ps k) (cy ps k)) && decide (0 ≤ det y1 y2 a1 a2 (cx ps k) (cy ps k)))) = s := ⟨_, rfl⟩
        have HLK : Hid (okE ps i k = (k == a || (k == i || (k == j || !s)))) := Lib.hid (by rw [HOK.out, hs])
        have HS := Lib.hid hs
        generalize cx ps k = u1 at *
        generalize cy ps k = u2 at *
        have C := Lib.hid (fun p : BlwBy wr => in4_is a1 a2 x1 x2 y1 y2 u1 u2 s p.x i1 i2 i3 i4 i5 i6 i7 i8 HS)
        have HBX := Lib.hid hBx
        clear c1 c2 c3 c4 c5 c6 c7 c8 hs HS hBx
        go_upto_region 10 with fail
        refine wb_region mixedP (by kernel_rfl) ?_
        repeat (refine wq_step (fun K hK => ?_); go_simp; first | (refine hK _ ?_; clear hK K) | (apply Exists.intro; refine ⟨fun _ => ?_, hK _ ?_⟩; (go_at_call 69; refine Calls.blw_of (C.out _)); clear hK K))
        refine wq_nil ?_
        intro _ hw'
        obtain ⟨pb, hw''⟩ := hw'
        subst hw''
        have HB3 := Lib.hid (HBX.out.trans (pb.hb.mono HBX.out.size))
        clear G1 G2 G3 G4 G5 G6 G7 G8 C HBX zb
        obtain ⟨w5, hb5⟩ := pb
        change Hid (Below w.heap.size w w5) at HB3
        dsimp only
        have NX : okE ps i k = true → Hid (∀ m, m < k + 1 → okE ps i m = true) := fun h => Lib.hid (fun m hm => by
          by_cases e : m = k
          · subst e; exact h
          · exact HM.out m (by omega))
        by_cases e1 : k = a
        · have HN := NX (by rw [HLK.out, e1]; simp)
          have e1i : (k : Int) = a := by omega
          have e1b : ((k : Int) != (a : Int)) = false := by rw [e1i]; exact bne_self_eq_false _
          clear NX e1 e1i
          go_wp2_with fail
          go_roundw
          case rel => exact ⟨k + 1, by omega, by go_num, HN, HB3.out⟩
          case measure => simp [intOf]; omega
        · have e1b : ((k : Int) != (a : Int)) = true := by rw [bne_iff_ne]; omega
          have e1i : ¬ (k : Int) = a := by omega
          by_cases e2 : k = i
          · have HN := NX (by rw [HLK.out, e2]; simp)
            have e2i : (k : Int) = i := by omega
            have e2b : ((k : Int) != (i : Int)) = false := by rw [e2i]; exact bne_self_eq_false _
            clear NX e2 e2i
            go_wp2_with fail
            go_roundw
            case rel => exact ⟨k + 1, by omega, by go_num, HN, HB3.out⟩
            case measure => simp [intOf]; omega
          · have e2b : ((k : Int) != (i : Int)) = true := by rw [bne_iff_ne]; omega
            have e2i : ¬ (k : Int) = i := by omega
            by_cases e3 : k = j
            · have HN := NX (by rw [HLK.out, e3]; simp)
              have e3i : (k : Int) = j := by omega
              have e3b : ((k : Int) != (j : Int)) = false := by rw [e3i]; exact bne_self_eq_false _
              clear NX e3 e3i
              go_wp2_with fail
              go_roundw
              case rel => exact ⟨k + 1, by omega, by go_num, HN, HB3.out⟩
              case measure => simp [intOf]; omega
            · have e3b : ((k : Int) != (j : Int)) = true := by rw [bne_iff_ne]; omega
              have e3i : ¬ (k : Int) = j := by omega
              cases s with
              | true =>
                have HE : Hid (t = false) := Lib.hid (HNO.out k hkl (by rw [HLK.out]; simp [e1, e2, e3]))
                clear NX
                go_wp2_with fail
                go_ret
                exact ⟨ret_bool HE.out.symm, HB3.out⟩
              | false =>
                have HN := NX (by rw [HLK.out]; simp)
                clear NX
                go_wp2_with fail
                go_roundw
                case rel => exact ⟨k + 1, by omega, by go_num, HN, HB3.out⟩
                case measure => simp [intOf]; omega
      · have HE : Hid (t = true) := Lib.hid (HYS.out fun m hm => HM.out m (by omega))
        have hkli : ¬ (k : Int) < ps.length := by omega
        have HB3 := Lib.hid hBx
        clear hBx HM
        go_wp2_with fail
        go_ret
        exact ⟨ret_bool HE.out.symm, HB3.out⟩
end Go.Proofs.Ytnpadblfpaiofaa
