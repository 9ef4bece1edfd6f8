/- Contract of the reference of layer 3: Has. Conditions: the slice reads as the list says; the coordinates are bounded as a valid polygon's. -/
import Derived.Test.YtojfonenpplahaaIxI
import Derived.Test.YtojfonenpplahaaHlQ
namespace Go.Proofs.Ytojfonenpplahaa
open Go.ChangeShapes Go.WideShapes Go.ChangeAt Go.RowKit
set_option linter.unusedVariables false
set_option linter.unusedSimpArgs false

theorem on_nz {a b c d p q : Int} (h : onB a b c d p q = false) : (b ≤ q ∧ q < d) ∨ (d ≤ q ∧ q < b) → det a b c d p q ≠ 0 := fun g z => by
  have : onB a b c d p q = true := by
    rw [← on_tr]
    refine on_axis (by omega) (by unfold Btw; omega) ?_
    unfold det at z
    grind
  rw [h] at this; cases this

set_option maxRecDepth 100000 in
set_option maxHeartbeats 8000000 in
theorem vhas_is (ao : Option Addr) (n cap : Nat) (p q : Int) (ps : List (Int × Int)) (v : Int) (w : World) (hn : ps.length = n) (hv : Hid (locE ps p q = v)) (hle : n ≤ 12) (hP : PRow w ao ps) (hV : AllV ps) (kp : InV p) (kq : InV q) :
    Calls Try.prog 70 #[.slice ao n cap, .agg #[.int .i64 p, .int .i64 q]] w fun e w' => e = .returned (.int .i64 v) ∧ Below w.heap.size w w' := by
  subst hn
  have HP := Lib.hid hP
  have HV := Lib.hid hV
  clear hP hV
  go_enter Try.func70, Try.ntmps70
  go_wp2_with fail
  go_loopw [5, 6] (fun u i wr => ∃ (k c : Nat), k ≤ ps.length ∧ c ≤ k ∧ i = .int .i64 k ∧ u = .int .i64 c ∧ Hid (∀ j, j < k → onE ps p q j = false) ∧ Hid (sideF (rayE ps p q) (List.range k) = if c % 2 = 1 then 1 else -1) ∧ Below w.heap.size w wr ∧ wr.heap[w.heap.size]? = some (.cells #[.int .i64 p, .int .i64 q] 47 (0, 0))) (fun _ i _ => ps.length - (intOf i).toNat)
  case atStart => exact ⟨0, 0, Nat.zero_le _, Nat.zero_le _, rfl, rfl, Lib.hid (fun j hj => by omega), Lib.hid rfl, belA (Below.refl _ _) _, blk_new _ _ _ rfl⟩
  case round =>
    obtain ⟨k, c, hk, hc, rfl, rfl, hE, hS, hB, hX⟩ := hrel
    by_cases hlt : k < ps.length
    · obtain ⟨j, hj⟩ : ∃ j, nx ps.length k = j := ⟨_, rfl⟩
      have hjl : j < ps.length := by rw [← hj]; exact nx_lt' hlt
      obtain ⟨i1, i2⟩ := HV.out k hlt
      obtain ⟨i3, i4⟩ := HV.out j hjl
      have hki : (k : Int) < ps.length := by omega
      obtain ⟨u, hu⟩ : ∃ u, onE ps p q k = u := ⟨_, rfl⟩
      have HON : Hid (onB (cx ps k) (cy ps k) (cx ps j) (cy ps j) p q = u) := Lib.hid (by rw [← hu]; unfold onE; rw [hj])
      have HR : Hid (u = false → rayE ps p q k = ((decide (cy ps k ≤ q) != decide (cy ps j ≤ q)) && (decide (cy ps k < cy ps j) == decide (0 < det (cx ps k) (cy ps k) (cx ps j) (cy ps j) p q)))) := Lib.hid (fun h => by
        unfold rayE
        rw [hj]
        exact ray_eq (by rw [HON.out]; exact h))
      have HNZ : Hid (u = false → (cy ps j ≤ q ∧ q < cy ps k) → det (cx ps k) (cy ps k) (cx ps j) (cy ps j) p q ≠ 0) := Lib.hid (fun h g => on_nz (by rw [HON.out]; exact h) (.inr g))
      have H0 : Hid (u = true → v = 0) := Lib.hid (fun h => by rw [← hv.out]; exact loc_zero.2 ⟨k, hlt, by rw [hu]; exact h⟩)
      have HNE : Hid (u = false → ∀ i, i < k + 1 → onE ps p q i = false) := Lib.hid (fun h i hi => by
        by_cases e : i = k
        · subst e; rw [hu]; exact h
        · exact hE.out i (by omega))
      have HSK : Hid (rayE ps p q k = false → sideF (rayE ps p q) (List.range (k + 1)) = if c % 2 = 1 then 1 else -1) := Lib.hid (fun h => by
        rw [List.range_succ, sideF_snoc, hS.out, h]; rfl)
      have HSS : Hid (rayE ps p q k = true → sideF (rayE ps p q) (List.range (k + 1)) = if (c + 1) % 2 = 1 then 1 else -1) := Lib.hid (fun h => by
        rw [List.range_succ, sideF_snoc, hS.out, h, if_pos rfl]
        rcases Nat.mod_two_eq_zero_or_one c with e | e
        · rw [if_neg (by omega), if_pos (by omega)]; rfl
        · rw [if_pos (by omega), if_neg (by omega)])
      have BB := Lib.hid hB
      have XX := Lib.hid hX
      have PP := Lib.hid (prow_below HP.out hB)
      have J1 : Hid (k % ps.length = k) := Lib.hid (Nat.mod_eq_of_lt hlt)
      have J2 : Hid ((k + 1) % ps.length = j) := Lib.hid hj
      obtain ⟨x1, q1⟩ : ∃ x, cx ps k = x := ⟨_, rfl⟩
      obtain ⟨y1, q2⟩ : ∃ x, cy ps k = x := ⟨_, rfl⟩
      obtain ⟨x2, q3⟩ : ∃ x, cx ps j = x := ⟨_, rfl⟩
      obtain ⟨y2, q4⟩ : ∃ x, cy ps j = x := ⟨_, rfl⟩
      rw [q1] at i1
      rw [q2] at i2
      rw [q3] at i3
      rw [q4] at i4
      rw [q1, q2, q3, q4] at HON HR HNZ
      have Q1 := Lib.hid q1
      have Q2 := Lib.hid q2
      have Q3 := Lib.hid q3
      have Q4 := Lib.hid q4
      obtain ⟨D, hD⟩ : ∃ D, det x1 y1 x2 y2 p q = D := ⟨_, rfl⟩
      have HD := Lib.hid hD
      have HD2 : Hid (det x2 y2 x1 y1 p q = -D) := Lib.hid (by rw [← hD]; unfold det; grind)
      rw [hD] at HR HNZ
      clear hB hX hj hu hE hS q1 q2 q3 q4 hD
      go_wp2_with fail
      refine (vat_at ao _ cap k k (k : Int) ps x1 y1 _ rfl rfl (by omega) (by omega) (by omega) J1 Q1 Q2 PP.out).mono ?_
      rintro e w1 ⟨rfl, hb⟩
      replace BB := Lib.hid (belT BB.out hb)
      replace XX := Lib.hid (blk_call XX.out hb)
      replace PP := Lib.hid (prow_below PP.out hb)
      clear hb
      go_wp2_with fail
      refine (vat_at ao _ cap (k + 1) j ((k : Int) + 1) ps x2 y2 _ (by omega) rfl (by omega) (by omega) (by omega) J2 Q3 Q4 (prow_alloc PP.out _)).mono ?_
      rintro e w2 ⟨rfl, hb⟩
      have AA := Lib.hid (blk_call (blk_new w1 (.cells #[.int .i64 x1, .int .i64 y1] 47) _ rfl) hb)
      replace BB := Lib.hid (belT (belA BB.out (.cells #[.int .i64 x1, .int .i64 y1] 47)) hb)
      replace XX := Lib.hid (blk_call (blk_alloc XX.out (.cells #[.int .i64 x1, .int .i64 y1] 47)) hb)
      clear hb PP
      have m0 := blk_cell XX.out 0 _ rfl
      have m1 := blk_cell XX.out 1 _ rfl
      have mz := blk_lt XX.out
      have m2 := blk_cell AA.out 0 _ rfl
      have m3 := blk_cell AA.out 1 _ rfl
      have my := blk_lt AA.out
      go_wp2_with fail
      refine (von_is x1 y1 x2 y2 p q u _ i1 i2 i3 i4 kp kq HON).mono ?_
      rintro e w3 ⟨rfl, hb⟩
      have CC := Lib.hid (blk_call (blk_new w2 (.cells #[.int .i64 x2, .int .i64 y2] 47) _ rfl) hb)
      replace BB := Lib.hid (belT (belA BB.out (.cells #[.int .i64 x2, .int .i64 y2] 47)) hb)
      replace XX := Lib.hid (blk_call (blk_alloc XX.out (.cells #[.int .i64 x2, .int .i64 y2] 47)) hb)
      replace AA := Lib.hid (blk_call (blk_alloc AA.out (.cells #[.int .i64 x2, .int .i64 y2] 47)) hb)
      clear hb m0 m1 m2 m3 mz my
      cases u with
      | true =>
        have E := Lib.hid (H0.out rfl)
        go_wp2_with fail
        go_ret
        exact ⟨ret_int E.out.symm, BB.out⟩
      | false =>
      have NE := Lib.hid (HNE.out rfl)
      have HR2 := Lib.hid (HR.out rfl)
      have HN2 := Lib.hid (HNZ.out rfl)
      clear HNE HR H0 HNZ HON
      have a0 := blk_cell AA.out 0 _ rfl
      have a1 := blk_cell AA.out 1 _ rfl
      have az := blk_lt AA.out
      have e0 := blk_cell CC.out 0 _ rfl
      have e1 := blk_cell CC.out 1 _ rfl
      have ez := blk_lt CC.out
      have u0 := blk_cell XX.out 0 _ rfl
      have u1 := blk_cell XX.out 1 _ rfl
      have uz := blk_lt XX.out
      by_cases g1 : y1 ≤ q
      · by_cases g2 : y2 ≤ q
        · have g3 : ¬ q < y2 := by omega
          have g4 : ¬ q < y1 := by omega
          have HS2 := Lib.hid (HSK.out (by rw [HR2.out, decide_eq_true (by omega : y1 ≤ q), decide_eq_true (by omega : y2 ≤ q)]; rfl))
          go_wp2_with fail
          go_roundw
          case rel => exact ⟨k + 1, c, by omega, by omega, by go_num, rfl, NE, HS2, BB.out, XX.out⟩
          case measure => simp [intOf]; omega
        · have g3 : q < y2 := by omega
          go_wp2_with fail
          refine (vcross_is x1 y1 x2 y2 p q D _ i1 i2 i3 i4 kp kq HD).mono ?_
          rintro e w4 ⟨rfl, hb⟩
          have B4 := Lib.hid (belT BB.out hb)
          have X4 := Lib.hid (blk_call XX.out hb)
          have A4 := Lib.hid (blk_call AA.out hb)
          have C4 := Lib.hid (blk_call CC.out hb)
          clear hb a0 a1 az e0 e1 ez u0 u1 uz
          have a0 := blk_cell A4.out 0 _ rfl
          have a1 := blk_cell A4.out 1 _ rfl
          have az := blk_lt A4.out
          have e0 := blk_cell C4.out 0 _ rfl
          have e1 := blk_cell C4.out 1 _ rfl
          have ez := blk_lt C4.out
          have u0 := blk_cell X4.out 0 _ rfl
          have u1 := blk_cell X4.out 1 _ rfl
          have uz := blk_lt X4.out
          by_cases hD : 0 < D
          · have HS2 := Lib.hid (HSS.out (by rw [HR2.out, decide_eq_true (by omega : y1 ≤ q), decide_eq_false (by omega : ¬ y2 ≤ q), decide_eq_true (by omega : y1 < y2), decide_eq_true (by omega : 0 < D)]; rfl))
            go_wp2_with fail
            go_roundw
            case rel => exact ⟨k + 1, c + 1, by omega, by omega, by go_num, by go_num, NE, HS2, B4.out, X4.out⟩
            case measure => simp [intOf]; omega
          · have HS2 := Lib.hid (HSK.out (by rw [HR2.out, decide_eq_true (by omega : y1 ≤ q), decide_eq_false (by omega : ¬ y2 ≤ q), decide_eq_true (by omega : y1 < y2), decide_eq_false (by omega : ¬ 0 < D)]; rfl))
            go_wp2_with fail
            go_roundw
            case rel => exact ⟨k + 1, c, by omega, by omega, by go_num, rfl, NE, HS2, B4.out, X4.out⟩
            case measure => simp [intOf]; omega
      · by_cases g2 : y2 ≤ q
        · have g3 : q < y1 := by omega
          go_wp2_with fail
          refine (vcross_is x2 y2 x1 y1 p q (-D) _ i3 i4 i1 i2 kp kq HD2).mono ?_
          rintro e w4 ⟨rfl, hb⟩
          have B4 := Lib.hid (belT BB.out hb)
          have X4 := Lib.hid (blk_call XX.out hb)
          have A4 := Lib.hid (blk_call AA.out hb)
          have C4 := Lib.hid (blk_call CC.out hb)
          clear hb a0 a1 az e0 e1 ez u0 u1 uz
          have a0 := blk_cell A4.out 0 _ rfl
          have a1 := blk_cell A4.out 1 _ rfl
          have az := blk_lt A4.out
          have e0 := blk_cell C4.out 0 _ rfl
          have e1 := blk_cell C4.out 1 _ rfl
          have ez := blk_lt C4.out
          have u0 := blk_cell X4.out 0 _ rfl
          have u1 := blk_cell X4.out 1 _ rfl
          have uz := blk_lt X4.out
          have nD := HN2.out ⟨by omega, by omega⟩
          by_cases hD : 0 < -D
          · have HS2 := Lib.hid (HSS.out (by rw [HR2.out, decide_eq_false (by omega : ¬ y1 ≤ q), decide_eq_true (by omega : y2 ≤ q), decide_eq_false (by omega : ¬ y1 < y2), decide_eq_false (by omega : ¬ 0 < D)]; rfl))
            clear nD
            go_wp2_with fail
            go_roundw
            case rel => exact ⟨k + 1, c + 1, by omega, by omega, by go_num, by go_num, NE, HS2, B4.out, X4.out⟩
            case measure => simp [intOf]; omega
          · have HS2 := Lib.hid (HSK.out (by rw [HR2.out, decide_eq_false (by omega : ¬ y1 ≤ q), decide_eq_true (by omega : y2 ≤ q), decide_eq_false (by omega : ¬ y1 < y2), decide_eq_true (by omega : 0 < D)]; rfl))
            clear nD
            go_wp2_with fail
            go_roundw
            case rel => exact ⟨k + 1, c, by omega, by omega, by go_num, rfl, NE, HS2, B4.out, X4.out⟩
            case measure => simp [intOf]; omega
        · have g3 : q < y1 := by omega
          have HS2 := Lib.hid (HSK.out (by rw [HR2.out, decide_eq_false (by omega : ¬ y1 ≤ q), decide_eq_false (by omega : ¬ y2 ≤ q)]; rfl))
          go_wp2_with fail
          go_roundw
          case rel => exact ⟨k + 1, c, by omega, by omega, by go_num, rfl, NE, HS2, BB.out, XX.out⟩
          case measure => simp [intOf]; omega
    · obtain rfl : k = ps.length := by omega
      have E : Hid (v = if c % 2 = 1 then 1 else -1) := Lib.hid (by
        rw [← hv.out, ← hS.out]
        unfold locE
        rw [if_neg]
        rw [Bool.not_eq_true, List.any_eq_false]
        intro i hi
        rw [hE.out i (List.mem_range.1 hi)]; decide)
      have BB := Lib.hid hB
      clear hE hS hB hX
      by_cases g : c % 2 = 1
      · have E2 : Hid (v = 1) := Lib.hid (by rw [E.out, if_pos g])
        have tm : (c : Int).tmod 2 = 1 := by rw [Int.tmod_eq_emod_of_nonneg (by omega)]; omega
        clear g
        go_wp2_with fail
        go_ret
        exact ⟨ret_int E2.out.symm, BB.out⟩
      · have E2 : Hid (v = -1) := Lib.hid (by rw [E.out, if_neg g])
        have tm : (c : Int).tmod 2 = 0 := by rw [Int.tmod_eq_emod_of_nonneg (by omega)]; omega
        clear g
        go_wp2_with fail
        go_ret
        exact ⟨ret_int E2.out.symm, BB.out⟩
end Go.Proofs.Ytojfonenpplahaa
