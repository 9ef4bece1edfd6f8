/- The reference's Right (validity) is validP: the walk. -/
import Derived.Test.YtnpadblfpaiofaaHlP
import Derived.Test.YtnpadblfpaiofaaHlR
import Derived.Test.YtnpadblfpaiofaaHlS
import Derived.Test.YtnpadblfpaiofaaHlT
namespace Go.Proofs.Ytnpadblfpaiofaa
open Go.ChangeShapes Go.WideShapes Go.ChangeAt Go.RowKit
set_option linter.unusedVariables false
set_option linter.unusedSimpArgs false

set_option maxRecDepth 100000 in
set_option maxHeartbeats 16000000 in
theorem right4_core {w : World} (ao : Option Addr) (cap : Nat) (ps : List (Int × Int)) (t : Bool) (ht : Hid (validP ps = t)) (h3 : 3 ≤ ps.length) (h12 : ps.length ≤ 12) (hP : PRow w ao ps) (hV : AllV ps) :
    Calls Try.prog 17 #[.slice ao ps.length cap] w fun e w' => e = .returned (.bool t) ∧ Below w.heap.size w w' := by
  have HP := Lib.hid hP
  have HV := Lib.hid hV
  have HM := Lib.hid ((mayL_iff ps).2 hV)
  have h0 : 0 < ps.length := by omega
  have h3i : ¬ (ps.length : Int) < 3 := by omega
  have h3f : decide ((ps.length : Int) < 3) = false := decide_eq_false h3i
  have h12f : decide (12 < (ps.length : Int)) = false := decide_eq_false (by omega)
  have h12i : ¬ 12 < (ps.length : Int) := by omega
  clear hP hV
  go_enter Try.func17, Try.ntmps17
  go_wp2_with fail
  refine (may_is ao _ cap ps true w rfl HM (by omega) HP.out).mono ?_
  rintro e wx ⟨rfl, rfl⟩
  go_wp2
  go_loopw [5] (fun i wr => ∃ k : Nat, k ≤ ps.length ∧ i = .int .i64 k ∧ Hid (∀ i, i < k → oriE ps i ≠ 0 ∧ ∀ m, m < ps.length → meetB ps i m = false) ∧ Below w.heap.size w wr) (fun i _ => ps.length - (intOf i).toNat)
  case atStart => exact ⟨0, Nat.zero_le _, rfl, Lib.hid (fun j hj => by omega), Below.refl _ _⟩
  case round =>
    obtain ⟨i, hi, rfl, HF, hB⟩ := hrel
    by_cases hlt : i < ps.length
    · obtain ⟨j, hj⟩ : ∃ j, nx ps.length i = j := ⟨_, rfl⟩
      have hjl : j < ps.length := by rw [← hj]; exact nx_lt' hlt
      obtain ⟨q, hq⟩ : ∃ q, nx ps.length j = q := ⟨_, rfl⟩
      have hql : q < ps.length := by rw [← hq]; exact nx_lt' hjl
      have hii : (i : Int) < ps.length := by omega
      have hji : (j : Int) < ps.length := by omega
      have hqi : (q : Int) < ps.length := by omega
      have hpe : ¬ ps = [] := fun e => by rw [e] at hlt; simp at hlt
      have hn0 : (ps.length : Int) ≠ 0 := by omega
      have ht1 : ((i : Int) + 1).tmod (ps.length : Int) = (j : Int) := by
        rw [← hj, Int.tmod_eq_emod_of_nonneg (by omega)]; unfold nx; simp
      have ht2 : ((i : Int) + 2).tmod (ps.length : Int) = (q : Int) := by
        rw [← hq, ← hj, Int.tmod_eq_emod_of_nonneg (by omega)]; unfold nx; rw [Nat.mod_add_mod, show i + 1 + 1 = i + 2 from rfl]; simp
      have hw1 : IntKind.i64.wrap ((i : Int) + 1) = (i : Int) + 1 := wrap_k _ (by omega)
      have hw2 : IntKind.i64.wrap ((i : Int) + 2) = (i : Int) + 2 := wrap_k _ (by omega)
      obtain ⟨b, b0, rfl, c1, c2⟩ := prow_at HP.out hlt
      obtain ⟨b', b0', ho', c3, c4⟩ := prow_at HP.out hjl
      obtain ⟨rfl, rfl⟩ : b = b' ∧ b0 = b0' := by simpa using ho'
      clear ho'
      obtain ⟨b', b0', ho', c5, c6⟩ := prow_at HP.out hql
      obtain ⟨rfl, rfl⟩ : b = b' ∧ b0 = b0' := by simpa using ho'
      clear ho'
      have d1 := (hB.cell (World.block_lt_of_cell? w _ c1)).trans c1
      have d2 := (hB.cell (World.block_lt_of_cell? w _ c2)).trans c2
      have d3 := (hB.cell (World.block_lt_of_cell? w _ c3)).trans c3
      have d4 := (hB.cell (World.block_lt_of_cell? w _ c4)).trans c4
      have d5 := (hB.cell (World.block_lt_of_cell? w _ c5)).trans c5
      have d6 := (hB.cell (World.block_lt_of_cell? w _ c6)).trans c6
      have zb : b < wr.heap.size := World.block_lt_of_cell? wr _ d1
      have zb0 : b < w.heap.size := World.block_lt_of_cell? w _ c1
      obtain ⟨i1, i2⟩ := HV.out i hlt
      obtain ⟨i3, i4⟩ := HV.out j hjl
      obtain ⟨i5, i6⟩ := HV.out q hql
      obtain ⟨d, hd⟩ : ∃ d, det (cx ps i) (cy ps i) (cx ps j) (cy ps j) (cx ps q) (cy ps q) = d := ⟨_, rfl⟩
      have HO : Hid (oriE ps i = 0 ↔ d = 0) := Lib.hid (by
        have := ori_zero (cx ps i) (cy ps i) (cx ps j) (cy ps j) (cx ps q) (cy ps q)
        unfold oriE
        rw [hj, hq]
        rw [hd, Bool.eq_iff_iff, beq_iff_eq, decide_eq_true_eq] at this
        exact this)
      have HS : Hid (∀ k, segE ps i k = segB (cx ps i) (cy ps i) (cx ps j) (cy ps j) (cx ps k) (cy ps k) (cx ps (nx ps.length k)) (cy ps (nx ps.length k))) := Lib.hid (fun k => by unfold segE; rw [hj])
      obtain ⟨x1, hx1⟩ : ∃ x, cx ps i = x := ⟨_, rfl⟩
      obtain ⟨y1, hy1⟩ : ∃ x, cy ps i = x := ⟨_, rfl⟩
      obtain ⟨x2, hx2⟩ : ∃ x, cx ps j = x := ⟨_, rfl⟩
      obtain ⟨y2, hy2⟩ : ∃ x, cy ps j = x := ⟨_, rfl⟩
      obtain ⟨x3, hx3⟩ : ∃ x, cx ps q = x := ⟨_, rfl⟩
      obtain ⟨y3, hy3⟩ : ∃ x, cy ps q = x := ⟨_, rfl⟩
      rw [hx1, hy1, hx2, hy2, hx3, hy3] at hd
      rw [hx1, hy1, hx2, hy2] at HS
      rw [hx1] at i1 d1 c1
      rw [hy1] at i2 d2 c2
      rw [hx2] at i3 d3 c3
      rw [hy2] at i4 d4 c4
      rw [hx3] at i5 d5
      rw [hy3] at i6 d6
      have C := Lib.hid (fun W => side_gr x1 y1 x2 y2 x3 y3 d W i1 i2 i3 i4 i5 i6 (Lib.hid hd))
      have HI := Lib.hid (And.intro (And.intro i1 i2) (And.intro i3 i4))
      have K1 := Lib.hid c1
      have K2 := Lib.hid c2
      have K3 := Lib.hid c3
      have K4 := Lib.hid c4
      have HB := Lib.hid hB
      clear hx1 hy1 hx2 hy2 hx3 hy3 hd hj hq hB c1 c2 c3 c4 c5 c6 i1 i2 i3 i4 i5 i6
      have G1 := fun n os => cell_grown (n := n) (os := os) zb d1
      have G2 := fun n os => cell_grown (n := n) (os := os) zb d2
      have G3 := fun n os => cell_grown (n := n) (os := os) zb d3
      have G4 := fun n os => cell_grown (n := n) (os := os) zb d4
      have G5 := fun n os => cell_grown (n := n) (os := os) zb d5
      have G6 := fun n os => cell_grown (n := n) (os := os) zb d6
      clear d1 d2 d3 d4 d5 d6
      go_upto_region 8 with fail
      refine wq_region mixedP (by kernel_rfl) ?_
      repeat (refine wq_step (fun K hK => ?_); go_simp; first | (refine hK _ ?_; clear hK K) | (apply Exists.intro; refine ⟨fun _ => ?_, hK _ ?_⟩; (first | (go_at_call 30; refine Calls.grown_of (C.out _))); clear hK K))
      refine wq_nil ?_
      intro _ hw'
      obtain ⟨⟨nq, osq⟩, hw''⟩ := hw'
      subst hw''
      have HB2 := Lib.hid (HB.out.trans ((below_gr wr nq osq).mono HB.out.size))
      clear G1 G2 G3 G4 G5 G6 C HB zb ht2 hqi hql
      generalize Sort.grow (wr.drewN nq) osq = w3 at *
      by_cases d0 : d = 0
      · have HE : Hid (t = false) := Lib.hid (by rw [← ht.out]; exact valid_no1 hlt (HO.out.2 d0))
        subst d0
        go_wp2_with fail
        go_ret
        exact ⟨ret_bool HE.out.symm, HB2.out⟩
      · have hd0 : (d == 0) = false := by rw [beq_eq_false_iff_ne]; exact d0
        have HO2 : Hid (oriE ps i ≠ 0) := Lib.hid (fun h => d0 (HO.out.1 h))
        clear HO
        go_wp2_with fail
        go_loopw [7] (fun kv wr => ∃ k : Nat, i + 1 ≤ k ∧ k ≤ ps.length ∧ kv = .int .i64 k ∧ Hid (∀ m, m < k → meetB ps i m = false) ∧ Below w.heap.size w wr) (fun kv _ => ps.length - (intOf kv).toNat)
        case atStart => exact ⟨i + 1, Nat.le_refl _, by omega, by go_num, Lib.hid (fun m hm => meet_small (by omega)), HB2.out⟩
        case round =>
          obtain ⟨k, hk1, hk2, rfl, HM, hB⟩ := hrel
          by_cases hkl : k < ps.length
          · have hkli : (k : Int) < ps.length := by omega
            obtain ⟨l, hl⟩ : ∃ l, nx ps.length k = l := ⟨_, rfl⟩
            have hll : l < ps.length := by rw [← hl]; exact nx_lt' hkl
            have hlli : (l : Int) < ps.length := by omega
            have ht3 : ((k : Int) + 1).tmod (ps.length : Int) = (l : Int) := by
              rw [← hl, Int.tmod_eq_emod_of_nonneg (by omega)]; unfold nx; simp
            have hw3 : IntKind.i64.wrap ((k : Int) + 1) = (k : Int) + 1 := wrap_k _ (by omega)
            obtain ⟨j1, j2⟩ := HV.out k hkl
            obtain ⟨j3, j4⟩ := HV.out l hll
            obtain ⟨s, hs⟩ : ∃ s, segE ps i k = s := ⟨_, rfl⟩
            obtain ⟨b', b0', ho', c5, c6⟩ := prow_at HP.out hkl
            obtain ⟨rfl, rfl⟩ : b = b' ∧ b0 = b0' := by simpa using ho'
            clear ho'
            obtain ⟨b', b0', ho', c7, c8⟩ := prow_at HP.out hll
            obtain ⟨rfl, rfl⟩ : b = b' ∧ b0 = b0' := by simpa using ho'
            clear ho'
            have zb : b < wr.heap.size := by have := hB.size; omega
            have d1 := (hB.cell (p := ⟨b, b0 + i * 2, none⟩) zb0).trans K1.out
            have d2 := (hB.cell (p := ⟨b, b0 + i * 2 + 1, none⟩) zb0).trans K2.out
            have d3 := (hB.cell (p := ⟨b, b0 + j * 2, none⟩) zb0).trans K3.out
            have d4 := (hB.cell (p := ⟨b, b0 + j * 2 + 1, none⟩) zb0).trans K4.out
            have d5 := (hB.cell (p := ⟨b, b0 + k * 2, none⟩) zb0).trans c5
            have d6 := (hB.cell (p := ⟨b, b0 + k * 2 + 1, none⟩) zb0).trans c6
            have d7 := (hB.cell (p := ⟨b, b0 + l * 2, none⟩) zb0).trans c7
            have d8 := (hB.cell (p := ⟨b, b0 + l * 2 + 1, none⟩) zb0).trans c8
            have HG : Hid (segB x1 y1 x2 y2 (cx ps k) (cy ps k) (cx ps l) (cy ps l) = s) := Lib.hid (by rw [← hs, HS.out k, hl])
            have HSG := Lib.hid hs
            obtain ⟨x4, hx4⟩ : ∃ x, cx ps k = x := ⟨_, rfl⟩
            obtain ⟨y4, hy4⟩ : ∃ x, cy ps k = x := ⟨_, rfl⟩
            obtain ⟨x5, hx5⟩ : ∃ x, cx ps l = x := ⟨_, rfl⟩
            obtain ⟨y5, hy5⟩ : ∃ x, cy ps l = x := ⟨_, rfl⟩
            rw [hx4, hy4, hx5, hy5] at HG
            rw [hx4] at j1 d5
            rw [hy4] at j2 d6
            rw [hx5] at j3 d7
            rw [hy5] at j4 d8
            have C := Lib.hid (fun W => cut_is x1 y1 x2 y2 x4 y4 x5 y5 s W HI.out.1.1 HI.out.1.2 HI.out.2.1 HI.out.2.2 j1 j2 j3 j4 HG)
            have HN1 : Hid (k = i + 1 → meetB ps i k = false) := Lib.hid (fun h => meet_small (by omega))
            have HN2 : Hid (i = 0 → k + 1 = ps.length → meetB ps i k = false) := Lib.hid (fun h1 h2 => meet_skip (by unfold nx; rw [h2, Nat.mod_self, h1]))
            have HN3 : Hid (k ≠ i + 1 → ¬ (i = 0 ∧ k + 1 = ps.length) → meetB ps i k = s) := Lib.hid (fun h1 h2 => by
              rw [← HSG.out]
              refine meet_seg (by omega) ?_
              intro e
              by_cases g : k + 1 = ps.length
              · unfold nx at e; rw [g, Nat.mod_self] at e; exact h2 ⟨e.symm, g⟩
              · unfold nx at e; rw [Nat.mod_eq_of_lt (by omega)] at e; omega)
            have HB := Lib.hid hB
            clear hx4 hy4 hx5 hy5 hs hl hB c5 c6 c7 c8 j1 j2 j3 j4
            have G1 := fun p => cell_blw zb d1 p
            have G2 := fun p => cell_blw zb d2 p
            have G3 := fun p => cell_blw zb d3 p
            have G4 := fun p => cell_blw zb d4 p
            have G5 := fun p => cell_blw zb d5 p
            have G6 := fun p => cell_blw zb d6 p
            have G7 := fun p => cell_blw zb d7 p
            have G8 := fun p => cell_blw zb d8 p
            clear d1 d2 d3 d4 d5 d6 d7 d8
            have hg : (k = i + 1 ∧ ((k : Int) == (i : Int) + 1) = true) ∨ (k ≠ i + 1 ∧ ((k : Int) == (i : Int) + 1) = false) := by
              by_cases g : k = i + 1
              · left; exact ⟨g, by rw [beq_iff_eq]; omega⟩
              · right; exact ⟨g, by rw [beq_eq_false_iff_ne]; omega⟩
            have hg2 : (i = 0 ∧ ((i : Int) == 0) = true) ∨ (i ≠ 0 ∧ ((i : Int) == 0) = false) := by
              by_cases g : i = 0
              · left; exact ⟨g, by rw [beq_iff_eq]; omega⟩
              · right; exact ⟨g, by rw [beq_eq_false_iff_ne]; omega⟩
            have hg3 : (k + 1 = ps.length ∧ ((k : Int) == (ps.length : Int) - 1) = true) ∨ (k + 1 ≠ ps.length ∧ ((k : Int) == (ps.length : Int) - 1) = false) := by
              by_cases g : k + 1 = ps.length
              · left; exact ⟨g, by rw [beq_iff_eq]; omega⟩
              · right; exact ⟨g, by rw [beq_eq_false_iff_ne]; omega⟩
            obtain ⟨nr, hnr⟩ : ∃ nr : Bool, nr = (((k : Int) == (i : Int) + 1) || (((i : Int) == 0) && ((k : Int) == (ps.length : Int) - 1))) := ⟨_, rfl⟩
            have HMS : Hid (meetB ps i k = (!nr && s)) := Lib.hid (by
              rcases hg with ⟨g, e⟩ | ⟨g, e⟩
              · rw [hnr, e, HN1.out g]; rfl
              · rcases hg2 with ⟨g2, e2⟩ | ⟨g2, e2⟩
                · rcases hg3 with ⟨g3, e3⟩ | ⟨g3, e3⟩
                  · rw [hnr, e, e2, e3, HN2.out g2 g3]; rfl
                  · rw [hnr, e, e2, e3, HN3.out g (fun h => g3 h.2)]; rfl
                · rw [hnr, e, e2, HN3.out g (fun h => g2 h.1)]; rfl)
            clear HN1 HN2 HN3
            have NR := Lib.hid hnr
            clear hnr
            go_upto_region 14 with fail
            go_cut [8] from 55 to 101 (fun v wx => v = .bool nr ∧ wx = wr)
            case first =>
              clear G1 G2 G3 G4 G5 G6 G7 G8 C
              rcases hg with ⟨g, e⟩ | ⟨g, e⟩
              · clear hg2 hg3
                have nt : nr = true := by rw [NR.out, e]; rfl
                go_wp2_with fail
                go_meet
                exact ⟨by rw [nt], rfl⟩
              · rcases hg2 with ⟨g2, e2⟩ | ⟨g2, e2⟩
                · rcases hg3 with ⟨g3, e3⟩ | ⟨g3, e3⟩
                  · have nt : nr = true := by rw [NR.out, e, e2, e3]; rfl
                    obtain rfl := g2
                    go_wp2_with fail
                    go_meet
                    exact ⟨by rw [nt], rfl⟩
                  · have nt : nr = false := by rw [NR.out, e, e2, e3]; rfl
                    obtain rfl := g2
                    go_wp2_with fail
                    go_meet
                    exact ⟨by rw [nt]; first | rfl | exact congrArg Value.bool e, rfl⟩
                · have nt : nr = false := by rw [NR.out, e, e2]; rfl
                  go_wp2_with fail
                  go_meet
                  exact ⟨by rw [nt], rfl⟩
            case rest =>
              obtain ⟨rfl, rfl⟩ := hcut
              clear hg hg2 hg3 NR
              go_upto_region 15 with fail
              refine wb_region mixedP (by kernel_rfl) ?_
              repeat (refine wq_step (fun K hK => ?_); go_simp; first | (refine hK _ ?_; clear hK K) | (apply Exists.intro; refine ⟨fun _ => ?_, hK _ ?_⟩; (first | (go_at_call 48; refine Calls.blw_of (C.out _))); clear hK K))
              refine wq_nil ?_
              intro _ hw'
              obtain ⟨pb, hw''⟩ := hw'
              subst hw''
              have HB3 := Lib.hid (HB.out.trans (pb.hb.mono HB.out.size))
              clear G1 G2 G3 G4 G5 G6 G7 G8 C HB zb
              obtain ⟨w5, hb5⟩ := pb
              change Hid (Below w.heap.size w w5) at HB3
              dsimp only
              cases nr with
              | true =>
                have HMK : Hid (meetB ps i k = false) := Lib.hid (by rw [HMS.out]; rfl)
                go_wp2_with fail
                go_roundw
                case rel => exact ⟨k + 1, by omega, by omega, by go_num, Lib.hid (fun m hm => by
                  by_cases e : m = k
                  · subst e; exact HMK.out
                  · exact HM.out m (by omega)), HB3.out⟩
                case measure => simp [intOf]; omega
              | false =>
                cases s with
                | false =>
                  have HMK : Hid (meetB ps i k = false) := Lib.hid (by rw [HMS.out]; rfl)
                  go_wp2_with fail
                  go_roundw
                  case rel => exact ⟨k + 1, by omega, by omega, by go_num, Lib.hid (fun m hm => by
                    by_cases e : m = k
                    · subst e; exact HMK.out
                    · exact HM.out m (by omega)), HB3.out⟩
                  case measure => simp [intOf]; omega
                | true =>
                  have HE : Hid (t = false) := Lib.hid (by rw [← ht.out]; exact valid_no2 hlt hkl (by rw [HMS.out]; rfl))
                  go_wp2_with fail
                  go_ret
                  exact ⟨ret_bool HE.out.symm, HB3.out⟩
          · have hkli : ¬ (k : Int) < ps.length := by omega
            have HB3 := Lib.hid hB
            have HFN : Hid (∀ i', i' < i + 1 → oriE ps i' ≠ 0 ∧ ∀ m, m < ps.length → meetB ps i' m = false) := Lib.hid (fun i' hi' => by
              by_cases e : i' = i
              · subst e; exact ⟨HO2.out, fun m hm => HM.out m (by omega)⟩
              · exact HF.out i' (by omega))
            clear HM HF hB
            go_wp2_with fail
            go_roundw
            case rel => exact ⟨i + 1, by omega, by go_num, HFN, HB3.out⟩
            case measure => simp [intOf]; omega
    · have hin : i = ps.length := by omega
      subst hin
      obtain ⟨v, hv⟩ : ∃ v, area2 ps = v := ⟨_, rfl⟩
      have HA := Lib.hid hv
      have HE : Hid (t = decide (0 < v)) := Lib.hid (by rw [← ht.out, ← hv]; exact valid_area h3 h12 HV.out HF.out)
      have HB := Lib.hid hB
      clear hv HF hB
      go_wp2_with fail
      refine (area4_is ao _ cap ps v _ rfl HA (by omega) h12 (prow_below HP.out HB.out) HV.out).mono ?_; rintro e w1 ⟨rfl, hb⟩
      have HB2 := Lib.hid (belT HB.out hb)
      clear hb
      go_wp2_with fail
      go_ret
      exact ⟨ret_bool HE.out.symm, HB2.out⟩

set_option maxRecDepth 100000 in
set_option maxHeartbeats 4000000 in
theorem right4_is (ao : Option Addr) (n cap : Nat) (ps : List (Int × Int)) (t : Bool) (w : World) (hn : ps.length = n) (ht : Hid (validP ps = t)) (hle : ps.length ≤ 9223372036854775807) (hP : PRow w ao ps) :
    Calls Try.prog 17 #[.slice ao n cap] w fun e w' => e = .returned (.bool t) ∧ Below w.heap.size w w' := by
  subst hn
  by_cases hV : AllV ps
  · by_cases h3 : ps.length < 3
    · have HE : Hid (t = false) := Lib.hid (by
        rw [← ht.out]
        refine valid_no0 ?_
        unfold validC
        rw [decide_eq_false (by omega)]; rfl)
      have h3i : (ps.length : Int) < 3 := by omega
      have HM := Lib.hid ((mayL_iff ps).2 hV)
      have HP := Lib.hid hP
      clear hV hP
      go_enter Try.func17, Try.ntmps17
      go_wp2_with fail
      refine (may_is ao _ cap ps true w rfl HM hle HP.out).mono ?_
      rintro e wx ⟨rfl, rfl⟩
      go_wp2
      go_ret
      exact ⟨ret_bool HE.out.symm, Below.refl _ _⟩
    · by_cases h12 : ps.length ≤ 12
      · exact right4_core ao cap ps t ht (by omega) h12 hP hV
      · have HE : Hid (t = false) := Lib.hid (by
          rw [← ht.out]
          refine valid_no0 ?_
          unfold validC
          rw [decide_eq_false (p := ps.length ≤ 12) (by omega)]; simp)
        have h3f : decide ((ps.length : Int) < 3) = false := decide_eq_false (by omega)
        have h3i : ¬ (ps.length : Int) < 3 := by omega
        have h12i : 12 < (ps.length : Int) := by omega
        have HM := Lib.hid ((mayL_iff ps).2 hV)
        have HP := Lib.hid hP
        clear hV hP
        go_enter Try.func17, Try.ntmps17
        go_wp2_with fail
        refine (may_is ao _ cap ps true w rfl HM hle HP.out).mono ?_
        rintro e wx ⟨rfl, rfl⟩
        go_wp2
        go_ret
        exact ⟨ret_bool HE.out.symm, Below.refl _ _⟩
  · have HE : Hid (t = false) := Lib.hid (by
      rw [← ht.out]
      cases hc : validC ps with
      | false => exact valid_no0 hc
      | true => exact absurd ((validC_iff ps).1 hc).2.2 hV)
    have HM : Hid (mayL ps = false) := Lib.hid (by
      cases hm : mayL ps with
      | false => rfl
      | true => exact absurd ((mayL_iff ps).1 hm) hV)
    have HP := Lib.hid hP
    clear hV hP
    by_cases h3i : (ps.length : Int) < 3
    · go_enter Try.func17, Try.ntmps17
      go_wp2_with fail
      refine (may_is ao _ cap ps false w rfl HM hle HP.out).mono ?_
      rintro e wx ⟨rfl, rfl⟩
      go_wp2
      go_ret
      exact ⟨ret_bool HE.out.symm, Below.refl _ _⟩
    · by_cases h12i : 12 < (ps.length : Int)
      · go_enter Try.func17, Try.ntmps17
        go_wp2_with fail
        refine (may_is ao _ cap ps false w rfl HM hle HP.out).mono ?_
        rintro e wx ⟨rfl, rfl⟩
        go_wp2
        go_ret
        exact ⟨ret_bool HE.out.symm, Below.refl _ _⟩
      · go_enter Try.func17, Try.ntmps17
        go_wp2_with fail
        refine (may_is ao _ cap ps false w rfl HM hle HP.out).mono ?_
        rintro e wx ⟨rfl, rfl⟩
        go_wp2
        go_ret
        exact ⟨ret_bool HE.out.symm, Below.refl _ _⟩
end Go.Proofs.Ytnpadblfpaiofaa
