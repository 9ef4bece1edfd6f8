/- For every valid arm and every configuration within its limits, the configuration is among the solutions for its own tip position and direction; all solutions are within the limits, reach that target, and are sorted strictly.
Conditions: none on the arguments; the table of rotations lies as the program's text lays it (the card's tie). -/
import Derived.Test.YtceejjamngplkaaDoorIkR
import Derived.Test.YtceejjamngplkaaDoorIkW
import Derived.Test.YtceejjamngplkaaDoorIkT
import Derived.Test.YtceejjamngplkaaDoorAmO
import Derived.Test.YtceejjamngplkaaDoorAmE
import Derived.Test.YtceejjamngplkaaDoorIkU
import Derived.Test.YtceejjamngplkaaDoorBase
import Derived.Test.YtceejjamngplkaaDoorTie
import Derived.Test.YtceejjamngplkaaDoorCards
import Derived.SevenTiedAt
namespace Go.Proofs.YtceejjamngplkaaDoor.invkinRoundTrip
open Go.ChangeShapes Go.WideShapes Go.ChangeAt Go.RowKit
set_option linter.unusedVariables false
set_option linter.unusedSimpArgs false
set_option maxRecDepth 100000

theorem in3_fit {l0 l1 l2 h0 h1 h2 x y z : Int} (h : In3 l0 l1 l2 h0 h1 h2 (x, y, z)) : fitB l0 l1 l2 h0 h1 h2 x y z = true := decide_eq_true h
theorem lt_at {L : List J3} (h : L.Pairwise lt3) {k : Nat} (h0 : 0 < k) (hk : k < L.length) : lt3 (L.getD (k - 1) j0) (L.getD k j0) := by
  have := List.pairwise_iff_getElem.1 h (k - 1) k (by omega) hk (by omega)
  rwa [List.getD_eq_getElem?_getD, List.getD_eq_getElem?_getD, List.getElem?_eq_getElem hk, List.getElem?_eq_getElem (show k - 1 < L.length by omega)]
section
variable {X Y n0 n1 n2 q0 q1 q2 x1 x2 x3 y1 y2 y3 u1 u2 u3 v1 v2 v3 a1 a2 a3 b1 b2 b3 : Int}
theorem pose_reach (P : Pose X Y n0 n1 n2 q0 q1 q2 x1 x2 x3 y1 y2 y3 u1 u2 u3 v1 v2 v3 a1 a2 a3 b1 b2 b3) : Reach3 X Y n0 n1 n2 a3 b3 x3 y3 (q0, q1, q2) := by
  unfold Reach3
  simp only
  rw [pose_pw P, pose_pd P, ← P.g3.1, ← P.g3.2, ← P.f3.1, ← P.f3.2]
  exact ⟨Prod.ext (by simp only; omega) (by simp only; omega), rfl⟩
theorem reach_pose {px py dx dy : Int} (P : Pose X Y n0 n1 n2 q0 q1 q2 x1 x2 x3 y1 y2 y3 u1 u2 u3 v1 v2 v3 a1 a2 a3 b1 b2 b3) (h : Reach3 X Y n0 n1 n2 px py dx dy (q0, q1, q2)) : (a3 = px ∧ b3 = py) ∧ x3 = dx ∧ y3 = dy := by
  unfold Reach3 at h
  simp only at h
  rw [pose_pw P, pose_pd P] at h
  simp only [Prod.mk.injEq] at h
  have g := P.g3
  have f := P.f3
  obtain ⟨⟨h1, h2⟩, rfl, rfl⟩ := h
  rw [← f.1, ← f.2] at g
  exact ⟨⟨by omega, by omega⟩, rfl, rfl⟩
end
set_option maxHeartbeats 8000000 in
theorem walk (X Y n0 n1 n2 W l0 l1 l2 h0 h1 h2 : Int) (r0 r1 r2 : Int) (hr0 : 0 ≤ r0 ∧ r0 ≤ 255) (hr1 : 0 ≤ r1 ∧ r1 ≤ 255) (hr2 : 0 ≤ r2 ∧ r2 ≤ 255) (w : World) (hT : Tab w) :
    Calls Tryd.prog 4 #[.agg #[.int .i64 X, .int .i64 Y, .int .i64 n0, .int .i64 n1, .int .i64 n2, .int .i64 W, .int .i64 l0, .int .i64 l1, .int .i64 l2, .int .i64 h0, .int .i64 h1, .int .i64 h2], .agg #[.int .u8 r0, .int .u8 r1, .int .u8 r2]] w fun e w' => e = .returned (.bool true) ∧ Below w.heap.size w w' := by
  go_enter Tryd.func4, Tryd.ntmps4
  go_upto_region 1 with fail
  obtain ⟨W0, hW0⟩ : ∃ z, ((w.alloc (.cells #[.int .i64 X, .int .i64 Y, .int .i64 n0, .int .i64 n1, .int .i64 n2, .int .i64 W, .int .i64 l0, .int .i64 l1, .int .i64 l2, .int .i64 h0, .int .i64 h1, .int .i64 h2] 27)).alloc (.cells #[.int .u8 r0, .int .u8 r1, .int .u8 r2] 30)) = z := ⟨_, rfl⟩
  have HA : Hid (W0.heap[w.heap.size]? = some (.cells #[.int .i64 X, .int .i64 Y, .int .i64 n0, .int .i64 n1, .int .i64 n2, .int .i64 W, .int .i64 l0, .int .i64 l1, .int .i64 l2, .int .i64 h0, .int .i64 h1, .int .i64 h2] 27 (0, 0))) := Lib.hid (by rw [← hW0]; exact blk_alloc (blk_new _ _ _ rfl) _)
  have HR : Hid (W0.heap[w.heap.size + 1]? = some (.cells #[.int .u8 r0, .int .u8 r1, .int .u8 r2] 30 (0, 0))) := Lib.hid (by rw [← hW0]; exact blk_new _ _ _ (by simp))
  have B : Hid (Below w.heap.size w W0) := Lib.hid (by rw [← hW0]; go_grown)
  have TT := Lib.hid hT
  rw [hW0]
  clear hW0 hT
  obtain ⟨ba, eba⟩ : ∃ a, w.heap.size = a := ⟨_, rfl⟩
  obtain ⟨br, ebr⟩ : ∃ a, w.heap.size + 1 = a := ⟨_, rfl⟩
  have NE := Lib.hid (show w.heap.size ≤ ba ∧ w.heap.size ≤ br ∧ ba ≠ br ∧ br ≠ ba by omega)
  rw [ebr, eba]
  rw [eba] at HA
  rw [ebr] at HR
  clear eba ebr
  go_upto_region 2 with (go_at_call 10; refine (head8_is _ (Tab.below TT.out B.out)).mono ?_; rintro e W1 ⟨rfl, hb⟩)
  replace HA := Lib.hid (blk_call HA.out hb)
  replace HR := Lib.hid (blk_call HR.out hb)
  replace B := Lib.hid (belT B.out hb)
  clear hb
  obtain ⟨t, ht⟩ : ∃ t, armB X Y n0 n1 n2 W l0 l1 l2 h0 h1 h2 = t := ⟨_, rfl⟩
  have HT := Lib.hid ht
  clear ht
  have c0 := blk_cell HA.out 0 _ rfl
  have c1 := blk_cell HA.out 1 _ rfl
  have c2 := blk_cell HA.out 2 _ rfl
  have c3 := blk_cell HA.out 3 _ rfl
  have c4 := blk_cell HA.out 4 _ rfl
  have c5 := blk_cell HA.out 5 _ rfl
  have c6 := blk_cell HA.out 6 _ rfl
  have c7 := blk_cell HA.out 7 _ rfl
  have c8 := blk_cell HA.out 8 _ rfl
  have c9 := blk_cell HA.out 9 _ rfl
  have c10 := blk_cell HA.out 10 _ rfl
  have c11 := blk_cell HA.out 11 _ rfl
  go_upto_region 3 with (go_at_call 11; refine (right7_is X Y n0 n1 n2 W l0 l1 l2 h0 h1 h2 t _ HT).mono ?_; rintro e W3 ⟨rfl, hb⟩)
  clear c0 c1 c2 c3 c4 c5 c6 c7 c8 c9 c10 c11
  replace HA := Lib.hid (blk_call HA.out hb)
  replace HR := Lib.hid (blk_call HR.out hb)
  replace B := Lib.hid (belT B.out hb)
  clear hb
  cases t
  · go_wp2_with fail
    go_ret
    exact ⟨rfl, B.out⟩
  have V := HT
  go_upto_region 5 with fail
  have VR := Lib.hid ((armB_iff X Y n0 n1 n2 W l0 l1 l2 h0 h1 h2).1 V.out)
  have JB0 := Lib.hid (jq_bd (l := l0) (h := h0) (by have := VR.out; omega) hr0.1)
  obtain ⟨q0, hq0⟩ : ∃ q, jq l0 h0 r0 = q := ⟨_, rfl⟩
  rw [hq0] at JB0
  have k0 : -1000 ≤ q0 ∧ q0 ≤ 1000 := by have := VR.out; have := JB0.out; omega
  replace hq0 := Lib.hid hq0
  have JB1 := Lib.hid (jq_bd (l := l1) (h := h1) (by have := VR.out; omega) hr1.1)
  obtain ⟨q1, hq1⟩ : ∃ q, jq l1 h1 r1 = q := ⟨_, rfl⟩
  rw [hq1] at JB1
  have k1 : -1000 ≤ q1 ∧ q1 ≤ 1000 := by have := VR.out; have := JB1.out; omega
  replace hq1 := Lib.hid hq1
  have JB2 := Lib.hid (jq_bd (l := l2) (h := h2) (by have := VR.out; omega) hr2.1)
  obtain ⟨q2, hq2⟩ : ∃ q, jq l2 h2 r2 = q := ⟨_, rfl⟩
  rw [hq2] at JB2
  have k2 : -1000 ≤ q2 ∧ q2 ≤ 1000 := by have := VR.out; have := JB2.out; omega
  replace hq2 := Lib.hid hq2
  have JQ : Hid (∀ w : World, Calls Tryd.prog 17 #[.agg #[.int .i64 X, .int .i64 Y, .int .i64 n0, .int .i64 n1, .int .i64 n2, .int .i64 W, .int .i64 l0, .int .i64 l1, .int .i64 l2, .int .i64 h0, .int .i64 h1, .int .i64 h2], .agg #[.int .u8 r0, .int .u8 r1, .int .u8 r2]] w fun e w' => e = .returned (.agg #[.int .i64 q0, .int .i64 q1, .int .i64 q2]) ∧ Below w.heap.size w w') := Lib.hid (fun w => by rw [← hq0.out, ← hq1.out, ← hq2.out]; exact joint_is X Y n0 n1 n2 W l0 l1 l2 h0 h1 h2 r0 r1 r2 w V hr0 hr1 hr2)
  obtain ⟨x1, x2, x3, y1, y2, y3, u1, u2, u3, v1, v2, v3, a1, a2, a3, b1, b2, b3, PP⟩ := pose_ex X Y n0 n1 n2 q0 q1 q2
  replace PP := Lib.hid PP
  have D1 := Lib.hid (vd_one q0 x1 y1 (Lib.hid PP.out.e1))
  have D2 := Lib.hid (vd_two (x1, y1) q1 x2 y2 1 2 D1.out (by omega) rfl (Lib.hid PP.out.e2))
  have D3 := Lib.hid (vd_two (x2, y2) q2 x3 y3 2 3 D2.out (by omega) rfl (Lib.hid PP.out.e3))
  have PB := Lib.hid (show (-439400000 ≤ a3 ∧ a3 ≤ 439400000) ∧ -439400000 ≤ b3 ∧ b3 ≤ 439400000 by have := pose_bd PP.out V.out; have := VR.out; omega)
  have PB0 := PB.out.1
  have PB1 := PB.out.2
  obtain ⟨L, hL⟩ : ∃ L, solL X Y n0 n1 n2 l0 l1 l2 h0 h1 h2 a3 b3 x3 y3 = L := ⟨_, rfl⟩
  obtain ⟨N, hN⟩ : ∃ N, L.length = N := ⟨_, rfl⟩
  have LB := Lib.hid (show L.length ≤ 36 by rw [← hL]; exact solL_36 (by have := VR.out; omega) (by have := VR.out; omega) (by have := VR.out; omega) (by have := VR.out; omega))
  have HL := Lib.hid hL
  have HN := Lib.hid hN
  clear hL hN
  have HMEM : Hid ((q0, q1, q2) ∈ L) := Lib.hid (by rw [← HL.out, mem_solL]; exact ⟨⟨JB0.out.2, JB1.out.2, JB2.out.2⟩, pose_reach PP.out⟩)
  have HALL : Hid (∀ q ∈ L, In3 l0 l1 l2 h0 h1 h2 q ∧ Reach3 X Y n0 n1 n2 a3 b3 x3 y3 q) := Lib.hid (fun q hq => by rw [← HL.out, mem_solL] at hq; exact hq)
  have HSRT := Lib.hid (show L.Pairwise lt3 by rw [← HL.out]; exact solL_sorted _ _ _ _ _ _ _ _ _ _ _ _ _ _ _)
  have c0 := blk_cell HA.out 0 _ rfl
  have c1 := blk_cell HA.out 1 _ rfl
  have c2 := blk_cell HA.out 2 _ rfl
  have c3 := blk_cell HA.out 3 _ rfl
  have c4 := blk_cell HA.out 4 _ rfl
  have c5 := blk_cell HA.out 5 _ rfl
  have c6 := blk_cell HA.out 6 _ rfl
  have c7 := blk_cell HA.out 7 _ rfl
  have c8 := blk_cell HA.out 8 _ rfl
  have c9 := blk_cell HA.out 9 _ rfl
  have c10 := blk_cell HA.out 10 _ rfl
  have c11 := blk_cell HA.out 11 _ rfl
  have d0 := blk_cell HR.out 0 _ rfl
  have d1 := blk_cell HR.out 1 _ rfl
  have d2 := blk_cell HR.out 2 _ rfl
  go_upto_region 6 with (go_at_call 17; refine (JQ.out _).mono ?_; rintro e W4 ⟨rfl, hb⟩)
  clear c0 c1 c2 c3 c4 c5 c6 c7 c8 c9 c10 c11
  clear d0 d1 d2
  replace HA := Lib.hid (blk_call HA.out hb)
  replace HR := Lib.hid (blk_call HR.out hb)
  replace B := Lib.hid (belT B.out hb)
  clear hb
  have lHAbq := Lib.hid (Nat.ne_of_lt (blk_lt HA.out))
  have lHRbq := Lib.hid (Nat.ne_of_lt (blk_lt HR.out))
  replace HA := Lib.hid (blk_alloc HA.out (.cells #[.int .i64 q0, .int .i64 q1, .int .i64 q2] 25))
  replace HR := Lib.hid (blk_alloc HR.out (.cells #[.int .i64 q0, .int .i64 q1, .int .i64 q2] 25))
  have HQ := Lib.hid (blk_new W4 (.cells #[.int .i64 q0, .int .i64 q1, .int .i64 q2] 25) _ rfl)
  have Nbq := Lib.hid (B.out.size)
  replace B := Lib.hid (belA B.out (.cells #[.int .i64 q0, .int .i64 q1, .int .i64 q2] 25))
  obtain ⟨bq, ebq⟩ : ∃ x, W4.heap.size = x := ⟨_, rfl⟩
  rw [ebq] at HQ Nbq lHAbq lHRbq ⊢
  clear ebq
  generalize W4.alloc (.cells #[.int .i64 q0, .int .i64 q1, .int .i64 q2] 25) = W5 at *
  have c0 := blk_cell HA.out 0 _ rfl
  have c1 := blk_cell HA.out 1 _ rfl
  have c2 := blk_cell HA.out 2 _ rfl
  have c3 := blk_cell HA.out 3 _ rfl
  have c4 := blk_cell HA.out 4 _ rfl
  have c5 := blk_cell HA.out 5 _ rfl
  have c6 := blk_cell HA.out 6 _ rfl
  have c7 := blk_cell HA.out 7 _ rfl
  have c8 := blk_cell HA.out 8 _ rfl
  have c9 := blk_cell HA.out 9 _ rfl
  have c10 := blk_cell HA.out 10 _ rfl
  have c11 := blk_cell HA.out 11 _ rfl
  have d0 := blk_cell HQ.out 0 _ rfl
  have d1 := blk_cell HQ.out 1 _ rfl
  have d2 := blk_cell HQ.out 2 _ rfl
  have TW := Lib.hid (Tab.below TT.out B.out)
  go_upto_region 7 with (go_at_call 21; refine (jpts_is X Y n0 n1 n2 W l0 l1 l2 h0 h1 h2 q0 q1 q2 x1 x2 x3 y1 y2 y3 u1 u2 u3 v1 v2 v3 a1 a2 a3 b1 b2 b3 _ TW.out k0 k1 k2 V PP).mono ?_; rintro e W6 ⟨rfl, hb⟩)
  clear c0 c1 c2 c3 c4 c5 c6 c7 c8 c9 c10 c11
  clear d0 d1 d2
  clear TW
  replace HA := Lib.hid (blk_call HA.out hb)
  replace HR := Lib.hid (blk_call HR.out hb)
  replace HQ := Lib.hid (blk_call HQ.out hb)
  replace B := Lib.hid (belT B.out hb)
  clear hb
  have lHAbp := Lib.hid (Nat.ne_of_lt (blk_lt HA.out))
  have lHRbp := Lib.hid (Nat.ne_of_lt (blk_lt HR.out))
  have lHQbp := Lib.hid (Nat.ne_of_lt (blk_lt HQ.out))
  replace HA := Lib.hid (blk_alloc HA.out (.cells #[.int .i64 X, .int .i64 Y, .int .i64 a1, .int .i64 b1, .int .i64 a2, .int .i64 b2, .int .i64 a3, .int .i64 b3] 44))
  replace HR := Lib.hid (blk_alloc HR.out (.cells #[.int .i64 X, .int .i64 Y, .int .i64 a1, .int .i64 b1, .int .i64 a2, .int .i64 b2, .int .i64 a3, .int .i64 b3] 44))
  replace HQ := Lib.hid (blk_alloc HQ.out (.cells #[.int .i64 X, .int .i64 Y, .int .i64 a1, .int .i64 b1, .int .i64 a2, .int .i64 b2, .int .i64 a3, .int .i64 b3] 44))
  have HP := Lib.hid (blk_new W6 (.cells #[.int .i64 X, .int .i64 Y, .int .i64 a1, .int .i64 b1, .int .i64 a2, .int .i64 b2, .int .i64 a3, .int .i64 b3] 44) _ rfl)
  have Nbp := Lib.hid (B.out.size)
  replace B := Lib.hid (belA B.out (.cells #[.int .i64 X, .int .i64 Y, .int .i64 a1, .int .i64 b1, .int .i64 a2, .int .i64 b2, .int .i64 a3, .int .i64 b3] 44))
  obtain ⟨bp, ebp⟩ : ∃ x, W6.heap.size = x := ⟨_, rfl⟩
  rw [ebp] at HP Nbp lHAbp lHRbp lHQbp ⊢
  clear ebp
  generalize W6.alloc (.cells #[.int .i64 X, .int .i64 Y, .int .i64 a1, .int .i64 b1, .int .i64 a2, .int .i64 b2, .int .i64 a3, .int .i64 b3] 44) = W7 at *
  have c0 := blk_cell HA.out 0 _ rfl
  have c1 := blk_cell HA.out 1 _ rfl
  have c2 := blk_cell HA.out 2 _ rfl
  have c3 := blk_cell HA.out 3 _ rfl
  have c4 := blk_cell HA.out 4 _ rfl
  have c5 := blk_cell HA.out 5 _ rfl
  have c6 := blk_cell HA.out 6 _ rfl
  have c7 := blk_cell HA.out 7 _ rfl
  have c8 := blk_cell HA.out 8 _ rfl
  have c9 := blk_cell HA.out 9 _ rfl
  have c10 := blk_cell HA.out 10 _ rfl
  have c11 := blk_cell HA.out 11 _ rfl
  have d0 := blk_cell HQ.out 0 _ rfl
  have d1 := blk_cell HQ.out 1 _ rfl
  have d2 := blk_cell HQ.out 2 _ rfl
  have TW := Lib.hid (Tab.below TT.out B.out)
  go_upto_region 8 with (go_at_call 22; refine (ldirs_is X Y n0 n1 n2 W l0 l1 l2 h0 h1 h2 q0 q1 q2 x1 y1 x2 y2 x3 y3 _ TW.out k0 k1 k2 (Lib.hid PP.out.e1) (Lib.hid PP.out.e2) (Lib.hid PP.out.e3)).mono ?_; rintro e W8 ⟨rfl, hb⟩)
  clear c0 c1 c2 c3 c4 c5 c6 c7 c8 c9 c10 c11
  clear d0 d1 d2
  clear TW
  replace HA := Lib.hid (blk_call HA.out hb)
  replace HR := Lib.hid (blk_call HR.out hb)
  replace HQ := Lib.hid (blk_call HQ.out hb)
  replace HP := Lib.hid (blk_call HP.out hb)
  replace B := Lib.hid (belT B.out hb)
  clear hb
  have lHAbd := Lib.hid (Nat.ne_of_lt (blk_lt HA.out))
  have lHRbd := Lib.hid (Nat.ne_of_lt (blk_lt HR.out))
  have lHQbd := Lib.hid (Nat.ne_of_lt (blk_lt HQ.out))
  have lHPbd := Lib.hid (Nat.ne_of_lt (blk_lt HP.out))
  replace HA := Lib.hid (blk_alloc HA.out (.cells #[.int .i64 x1, .int .i64 y1, .int .i64 1, .int .i64 x2, .int .i64 y2, .int .i64 2, .int .i64 x3, .int .i64 y3, .int .i64 3] 46))
  replace HR := Lib.hid (blk_alloc HR.out (.cells #[.int .i64 x1, .int .i64 y1, .int .i64 1, .int .i64 x2, .int .i64 y2, .int .i64 2, .int .i64 x3, .int .i64 y3, .int .i64 3] 46))
  replace HQ := Lib.hid (blk_alloc HQ.out (.cells #[.int .i64 x1, .int .i64 y1, .int .i64 1, .int .i64 x2, .int .i64 y2, .int .i64 2, .int .i64 x3, .int .i64 y3, .int .i64 3] 46))
  replace HP := Lib.hid (blk_alloc HP.out (.cells #[.int .i64 x1, .int .i64 y1, .int .i64 1, .int .i64 x2, .int .i64 y2, .int .i64 2, .int .i64 x3, .int .i64 y3, .int .i64 3] 46))
  have HD := Lib.hid (blk_new W8 (.cells #[.int .i64 x1, .int .i64 y1, .int .i64 1, .int .i64 x2, .int .i64 y2, .int .i64 2, .int .i64 x3, .int .i64 y3, .int .i64 3] 46) _ rfl)
  have Nbd := Lib.hid (B.out.size)
  replace B := Lib.hid (belA B.out (.cells #[.int .i64 x1, .int .i64 y1, .int .i64 1, .int .i64 x2, .int .i64 y2, .int .i64 2, .int .i64 x3, .int .i64 y3, .int .i64 3] 46))
  obtain ⟨bd, ebd⟩ : ∃ x, W8.heap.size = x := ⟨_, rfl⟩
  rw [ebd] at HD Nbd lHAbd lHRbd lHQbd lHPbd ⊢
  clear ebd
  generalize W8.alloc (.cells #[.int .i64 x1, .int .i64 y1, .int .i64 1, .int .i64 x2, .int .i64 y2, .int .i64 2, .int .i64 x3, .int .i64 y3, .int .i64 3] 46) = W9 at *
  have c0 := blk_cell HA.out 0 _ rfl
  have c1 := blk_cell HA.out 1 _ rfl
  have c2 := blk_cell HA.out 2 _ rfl
  have c3 := blk_cell HA.out 3 _ rfl
  have c4 := blk_cell HA.out 4 _ rfl
  have c5 := blk_cell HA.out 5 _ rfl
  have c6 := blk_cell HA.out 6 _ rfl
  have c7 := blk_cell HA.out 7 _ rfl
  have c8 := blk_cell HA.out 8 _ rfl
  have c9 := blk_cell HA.out 9 _ rfl
  have c10 := blk_cell HA.out 10 _ rfl
  have c11 := blk_cell HA.out 11 _ rfl
  have p6 := blk_cell HP.out 6 _ rfl
  have p7 := blk_cell HP.out 7 _ rfl
  have d6 := blk_cell HD.out 6 _ rfl
  have d7 := blk_cell HD.out 7 _ rfl
  have d8 := blk_cell HD.out 8 _ rfl
  have TW := Lib.hid (Tab.below TT.out B.out)
  have TH := Lib.hid (show (-1000000000 ≤ a3 ∧ a3 ≤ 1000000000) ∧ -1000000000 ≤ b3 ∧ b3 ≤ 1000000000 by have := PB.out; omega)
  go_upto_region 9 with (go_at_call 14; refine (solve_any X Y n0 n1 n2 W l0 l1 l2 h0 h1 h2 a3 b3 x3 y3 _ TW.out V D3 TH L N HL HN).mono ?_; rintro e Ws ⟨⟨ao, sc, rfl, hrow⟩, hb⟩)
  clear c0 c1 c2 c3 c4 c5 c6 c7 c8 c9 c10 c11
  clear p6 p7 d6 d7 d8 TW TH
  have ROW := Lib.hid hrow
  clear hrow
  replace HA := Lib.hid (blk_call HA.out hb)
  replace HR := Lib.hid (blk_call HR.out hb)
  replace HQ := Lib.hid (blk_call HQ.out hb)
  replace HP := Lib.hid (blk_call HP.out hb)
  replace HD := Lib.hid (blk_call HD.out hb)
  replace B := Lib.hid (belT B.out hb)
  clear hb
  have d0 := blk_cell HQ.out 0 _ rfl
  have d1 := blk_cell HQ.out 1 _ rfl
  have d2 := blk_cell HQ.out 2 _ rfl
  go_upto_region 10 with (go_at_call 23; refine (has3_is ao N sc L q0 q1 q2 true _ HN.out (Lib.hid (decide_eq_true HMEM.out)) (by have := LB.out; omega) ROW.out).mono ?_; rintro e Wh ⟨rfl, hb⟩)
  clear d0 d1 d2
  replace HA := Lib.hid (blk_call HA.out hb)
  replace HR := Lib.hid (blk_call HR.out hb)
  replace HQ := Lib.hid (blk_call HQ.out hb)
  replace HP := Lib.hid (blk_call HP.out hb)
  replace HD := Lib.hid (blk_call HD.out hb)
  replace ROW := Lib.hid (prow3_below ROW.out hb)
  replace B := Lib.hid (belT B.out hb)
  clear hb
  have NB36 : N ≤ 36 := by rw [← HN.out]; exact LB.out
  go_wp2_with fail
  go_loopw [12] (fun i wr => ∃ j : Nat, j ≤ N ∧ i = .int .i64 j ∧ Hid (Below Wh.heap.size Wh wr)) (fun i _ => N - (intOf i).toNat)
  case atStart => exact ⟨0, Nat.zero_le _, rfl, Lib.hid (Below.refl _ _)⟩
  case round =>
    obtain ⟨j, hj, rfl, HB⟩ := hrel
    by_cases hlt : j < N
    rotate_left
    · have hlt' : ¬ (j : Int) < N := by omega
      go_wp2_with fail
      go_ret
      exact ⟨rfl, belT B.out HB.out⟩
    have hLj : j < L.length := by rw [HN.out]; exact hlt
    have B0 := B
    clear B
    have B := Lib.hid (belT B0.out HB.out)
    have HAr := Lib.hid (blk_call HA.out HB.out)
    have HRr := Lib.hid (blk_call HR.out HB.out)
    have HQr := Lib.hid (blk_call HQ.out HB.out)
    have HPr := Lib.hid (blk_call HP.out HB.out)
    have HDr := Lib.hid (blk_call HD.out HB.out)
    have ROWr := Lib.hid (prow3_below ROW.out HB.out)
    obtain ⟨b', o', eao, c1, c2, c3⟩ := ROWr.out j hLj
    have EL := Lib.hid (HALL.out _ (getD_mem hLj))
    have hji : (j : Int) < N := by omega
    have SL : Hid (0 < j → lt3 (L.getD (j - 1) j0) (L.getD j j0)) := Lib.hid (fun h => lt_at HSRT.out h hLj)
    obtain ⟨eq, heq⟩ : ∃ e, L.getD j j0 = e := ⟨_, rfl⟩
    rw [heq] at c1 c2 c3 EL SL
    have HEQ := Lib.hid heq
    clear heq
    obtain ⟨x, y, z⟩ := eq
    have FI := Lib.hid (in3_fit EL.out.1)
    have kx : -1000 ≤ x ∧ x ≤ 1000 := by have := EL.out.1.1; have := VR.out; simp only at *; omega
    have ky : -1000 ≤ y ∧ y ≤ 1000 := by have := EL.out.1.2.1; have := VR.out; simp only at *; omega
    have kz : -1000 ≤ z ∧ z ≤ 1000 := by have := EL.out.1.2.2; have := VR.out; simp only at *; omega
    subst eao
    have IL : ∀ w : World, Calls Tryd.prog 24 #[.agg #[.int .i64 X, .int .i64 Y, .int .i64 n0, .int .i64 n1, .int .i64 n2, .int .i64 W, .int .i64 l0, .int .i64 l1, .int .i64 l2, .int .i64 h0, .int .i64 h1, .int .i64 h2], .agg #[.int .i64 x, .int .i64 y, .int .i64 z]] w fun e w' => e = .returned (.bool true) ∧ Below w.heap.size w w' := fun w => by have := inlim_any X Y n0 n1 n2 W l0 l1 l2 h0 h1 h2 x y z w; rwa [FI.out] at this
    obtain ⟨ex1, ex2, ex3, ey1, ey2, ey3, eu1, eu2, eu3, ev1, ev2, ev3, ea1, ea2, ea3, eb1, eb2, eb3, QP⟩ := pose_ex X Y n0 n1 n2 x y z
    replace QP := Lib.hid QP
    have EE := reach_pose QP.out EL.out.2
    obtain ⟨⟨e1, e2⟩, e3, e4⟩ := EE
    obtain rfl := e1.symm
    obtain rfl := e2.symm
    obtain rfl := e3.symm
    obtain rfl := e4.symm
    go_upto_region 15 with fail
    have TW := Lib.hid (Tab.below TT.out B.out)
    obtain ⟨sp, hsp⟩ : ∃ sp : ToldS, sp = [none, none, none, none, none, none, none, none, none, none, none, none, none, none, none, none, none, none, none, none, none, none, none, none, none, none, none, none, none, none, none, none, none, none, none, none, none, none, none, none, none, none, none, none, none, none, none, some (eqS (.agg #[.int .i64 X, .int .i64 Y, .int .i64 n0, .int .i64 n1, .int .i64 n2, .int .i64 W, .int .i64 l0, .int .i64 l1, .int .i64 l2, .int .i64 h0, .int .i64 h1, .int .i64 h2])), some (eqS (.slice (some ⟨b', o', none⟩) N sc)), some (eqS (.int .i64 j)), some (eqS (.pointer (some ⟨b', o' + j * 3, none⟩))), some (eqS (.agg #[.int .i64 x, .int .i64 y, .int .i64 z])), some (eqS (.bool true)), some (eqS (.bool false))] := ⟨_, rfl⟩
    have s47 : sp.getD 47 none = some (eqS (.agg #[.int .i64 X, .int .i64 Y, .int .i64 n0, .int .i64 n1, .int .i64 n2, .int .i64 W, .int .i64 l0, .int .i64 l1, .int .i64 l2, .int .i64 h0, .int .i64 h1, .int .i64 h2])) := by rw [hsp]; rfl
    have s48 : sp.getD 48 none = some (eqS (.slice (some ⟨b', o', none⟩) N sc)) := by rw [hsp]; rfl
    have s49 : sp.getD 49 none = some (eqS (.int .i64 j)) := by rw [hsp]; rfl
    have s50 : sp.getD 50 none = some (eqS (.pointer (some ⟨b', o' + j * 3, none⟩))) := by rw [hsp]; rfl
    have s51 : sp.getD 51 none = some (eqS (.agg #[.int .i64 x, .int .i64 y, .int .i64 z])) := by rw [hsp]; rfl
    have s52 : sp.getD 52 none = some (eqS (.bool true)) := by rw [hsp]; rfl
    have s53 : sp.getD 53 none = some (eqS (.bool false)) := by rw [hsp]; rfl
    clear hsp
    refine (wpIn_wide (n := 0)).1 (region_allR (RtS sp) (rtS_keep sp) rfl rfl rfl (by kernel_rfl) (by kernel_rfl) (by kernel_rfl) ?_ ?_)
    · intro Q'
      refine obsR_cons ?_ ?_
      · intro T wx K hB hF hD hK
        have g2 : T[2]? = some (.pointer (some ⟨ba, 0, none⟩)) := hF 2 (freeM_of (by kernel_rfl))
        refine ob_yes (wanted_none rfl) ?_
        clear hF hD
        exact wp_load_row 27 (.tmp 2) rfl _ (eval_tmp g2) _ _ _ _ (blk_call HAr.out hB) Tryd.underlying27 rfl (by kernel_rfl) (hK _ _ (Below.refl _ _) (rt_eqS s47))
      refine obsR_cons ?_ ?_
      · intro T wx K hB hF hD hK
        have g10 : T[10]? = some (.slice (some ⟨b', o', none⟩) N sc) := hF 10 (freeM_of (by kernel_rfl))
        refine ob_yes (wanted_none rfl) ?_
        clear hF hD
        go_simp
        exact hK _ _ (Below.refl _ _) (rt_eqS s48)
      refine obsR_cons ?_ ?_
      · intro T wx K hB hF hD hK
        have g12 : T[12]? = some (.int .i64 j) := hF 12 (freeM_of (by kernel_rfl))
        refine ob_yes (wanted_none rfl) ?_
        clear hF hD
        go_simp
        exact hK _ _ (Below.refl _ _) (rt_eqS s49)
      refine obsR_cons ?_ ?_
      · intro T wx K hB hF hD hK
        have g48 := get_eqS (hD 1 48 (by simp [Region.binds]) (by kernel_rfl)) s48
        have g49 := get_eqS (hD 2 49 (by simp [Region.binds]) (by kernel_rfl)) s49
        refine ob_yes (wanted_none rfl) ?_
        clear hF hD
        go_simp
        exact hK _ _ (Below.refl _ _) (rt_eqS s50)
      refine obsR_cons ?_ ?_
      · intro T wx K hB hF hD hK
        have g50 := get_eqS (hD 3 50 (by simp [Region.binds]) (by kernel_rfl)) s50
        refine ob_yes (wanted_none rfl) ?_
        clear hF hD
        have jc1 := (hB.cell (World.block_lt_of_cell? _ _ c1)).trans c1
        have jc2 := (hB.cell (World.block_lt_of_cell? _ _ c2)).trans c2
        have jc3 := (hB.cell (World.block_lt_of_cell? _ _ c3)).trans c3
        go_simp
        exact hK _ _ (Below.refl _ _) (rt_eqS s51)
      refine obsR_cons ?_ ?_
      · intro T wx K hB hF hD hK
        have g47 := get_eqS (hD 0 47 (by simp [Region.binds]) (by kernel_rfl)) s47
        have g51 := get_eqS (hD 4 51 (by simp [Region.binds]) (by kernel_rfl)) s51
        refine ob_yes (wanted_none rfl) ?_
        clear hF hD
        go_simp
        refine (IL _).mono ?_; rintro e w9 ⟨rfl, hb⟩
        exact hK _ _ hb (rt_eqS s52)
      refine obsR_cons ?_ ?_
      · intro T wx K hB hF hD hK
        have g52 := get_eqS (hD 5 52 (by simp [Region.binds]) (by kernel_rfl)) s52
        refine ob_yes (wanted_none rfl) ?_
        clear hF hD
        go_simp
        exact hK _ _ (Below.refl _ _) (rt_eqS s53)
      exact obsR_nil
    · intro Tx Wx hb8 hF hs hD
      have g47 := get_eqS (hD 0 47 (by decide) (by kernel_rfl)) s47
      have g48 := get_eqS (hD 1 48 (by decide) (by kernel_rfl)) s48
      have g49 := get_eqS (hD 2 49 (by decide) (by kernel_rfl)) s49
      have g50 := get_eqS (hD 3 50 (by decide) (by kernel_rfl)) s50
      have g51 := get_eqS (hD 4 51 (by decide) (by kernel_rfl)) s51
      have g52 := get_eqS (hD 5 52 (by decide) (by kernel_rfl)) s52
      have g53 := get_eqS (hD 6 53 (by decide) (by kernel_rfl)) s53
      have hT9 := conc [(47, .agg #[.int .i64 X, .int .i64 Y, .int .i64 n0, .int .i64 n1, .int .i64 n2, .int .i64 W, .int .i64 l0, .int .i64 l1, .int .i64 l2, .int .i64 h0, .int .i64 h1, .int .i64 h2]), (48, .slice (some ⟨b', o', none⟩) N sc), (49, .int .i64 j), (50, .pointer (some ⟨b', o' + j * 3, none⟩)), (51, .agg #[.int .i64 x, .int .i64 y, .int .i64 z]), (52, .bool true), (53, .bool false)] hs hF (by simp only [List.forall_mem_cons]; exact ⟨g47, g48, g49, g50, g51, g52, g53, fun p hp => absurd hp List.not_mem_nil⟩) (by kernel_rfl)
      simp only [List.foldl, List.setIfInBounds_toArray, List.set_cons_succ, List.set_cons_zero] at hT9
      subst hT9
      clear hF hD hs g47 g48 g49 g50 g51 g52 g53 s47 s48 s49 s50 s51 s52 s53
      clear HQr HRr
      replace HAr := Lib.hid (blk_call HAr.out hb8)
      replace HPr := Lib.hid (blk_call HPr.out hb8)
      replace HDr := Lib.hid (blk_call HDr.out hb8)
      replace c1 := (hb8.cell (World.block_lt_of_cell? _ _ c1)).trans c1
      replace c2 := (hb8.cell (World.block_lt_of_cell? _ _ c2)).trans c2
      replace c3 := (hb8.cell (World.block_lt_of_cell? _ _ c3)).trans c3
      replace ROWr := Lib.hid (prow3_below ROWr.out hb8)
      replace HB := Lib.hid (belT HB.out hb8)
      replace B := Lib.hid (belT B.out hb8)
      clear hb8
      replace TW := Lib.hid (Tab.below TT.out B.out)
      go_upto_region 17 with fail
      obtain ⟨sp, hsp⟩ : ∃ sp : ToldS, sp = [none, none, none, none, none, none, none, none, none, none, none, none, none, some (newS Wx.heap.size #[.int .i64 0, .int .i64 0, .int .i64 0, .int .i64 0, .int .i64 0, .int .i64 0, .int .i64 0, .int .i64 0] 44), none, none, none, none, none, none, none, none, none, none, none, none, none, none, none, none, none, none, none, none, none, none, none, none, none, none, none, none, none, none, none, none, none, none, none, none, none, none, none, none, some (eqS (.agg #[.int .i64 X, .int .i64 Y, .int .i64 n0, .int .i64 n1, .int .i64 n2, .int .i64 W, .int .i64 l0, .int .i64 l1, .int .i64 l2, .int .i64 h0, .int .i64 h1, .int .i64 h2])), some (eqS (.slice (some ⟨b', o', none⟩) N sc)), some (eqS (.int .i64 j)), some (eqS (.pointer (some ⟨b', o' + j * 3, none⟩))), some (eqS (.agg #[.int .i64 x, .int .i64 y, .int .i64 z])), some (eqS (.agg #[.int .i64 X, .int .i64 Y, .int .i64 ea1, .int .i64 eb1, .int .i64 ea2, .int .i64 eb2, .int .i64 a3, .int .i64 b3]))] := ⟨_, rfl⟩
      have s13 : sp.getD 13 none = some (newS Wx.heap.size #[.int .i64 0, .int .i64 0, .int .i64 0, .int .i64 0, .int .i64 0, .int .i64 0, .int .i64 0, .int .i64 0] 44) := by rw [hsp]; rfl
      have s54 : sp.getD 54 none = some (eqS (.agg #[.int .i64 X, .int .i64 Y, .int .i64 n0, .int .i64 n1, .int .i64 n2, .int .i64 W, .int .i64 l0, .int .i64 l1, .int .i64 l2, .int .i64 h0, .int .i64 h1, .int .i64 h2])) := by rw [hsp]; rfl
      have s55 : sp.getD 55 none = some (eqS (.slice (some ⟨b', o', none⟩) N sc)) := by rw [hsp]; rfl
      have s56 : sp.getD 56 none = some (eqS (.int .i64 j)) := by rw [hsp]; rfl
      have s57 : sp.getD 57 none = some (eqS (.pointer (some ⟨b', o' + j * 3, none⟩))) := by rw [hsp]; rfl
      have s58 : sp.getD 58 none = some (eqS (.agg #[.int .i64 x, .int .i64 y, .int .i64 z])) := by rw [hsp]; rfl
      have s59 : sp.getD 59 none = some (eqS (.agg #[.int .i64 X, .int .i64 Y, .int .i64 ea1, .int .i64 eb1, .int .i64 ea2, .int .i64 eb2, .int .i64 a3, .int .i64 b3])) := by rw [hsp]; rfl
      clear hsp
      refine (wpIn_wide (n := 0)).1 (region_headF (FS := [13]) (RtS sp) (rtS_keep sp) (fun t v w ht h => by rcases (by simpa using ht : t = 13) with rfl <;> first | exact newS_fresh s13 h) 7 rfl rfl rfl (by kernel_rfl) (by decide) (by kernel_rfl) (by kernel_rfl) (by kernel_rfl) ?_ ?_)
      · intro Q'; show ObsF _ _ _ _ _ _ _ _ _ (List.take _ _); simp only [List.take_succ_cons, List.take_zero]
        refine obsF_cons (obF_of ?_ (by intro d e; cases e; decide)) ?_
        · intro T wx K hB hF hD hK
          have g2 : T[2]? = some (.pointer (some ⟨ba, 0, none⟩)) := hF 2 (freeM_of (by kernel_rfl))
          refine ob_yes (wanted_none rfl) ?_
          clear hF hD
          exact wp_load_row 27 (.tmp 2) rfl _ (eval_tmp g2) _ _ _ _ (blk_call HAr.out hB) Tryd.underlying27 rfl (by kernel_rfl) (hK _ _ (Below.refl _ _) (rt_eqS s54))
        refine obsF_cons (obF_of ?_ (by intro d e; cases e; decide)) ?_
        · intro T wx K hB hF hD hK
          have g10 : T[10]? = some (.slice (some ⟨b', o', none⟩) N sc) := hF 10 (freeM_of (by kernel_rfl))
          refine ob_yes (wanted_none rfl) ?_
          clear hF hD
          go_simp
          exact hK _ _ (Below.refl _ _) (rt_eqS s55)
        refine obsF_cons (obF_of ?_ (by intro d e; cases e; decide)) ?_
        · intro T wx K hB hF hD hK
          have g12 : T[12]? = some (.int .i64 j) := hF 12 (freeM_of (by kernel_rfl))
          refine ob_yes (wanted_none rfl) ?_
          clear hF hD
          go_simp
          exact hK _ _ (Below.refl _ _) (rt_eqS s56)
        refine obsF_cons (obF_of ?_ (by intro d e; cases e; decide)) ?_
        · intro T wx K hB hF hD hK
          have g55 := get_eqS (hD 1 55 (by simp [Region.binds]) (by kernel_rfl)) s55
          have g56 := get_eqS (hD 2 56 (by simp [Region.binds]) (by kernel_rfl)) s56
          refine ob_yes (wanted_none rfl) ?_
          clear hF hD
          go_simp
          exact hK _ _ (Below.refl _ _) (rt_eqS s57)
        refine obsF_cons (obF_of ?_ (by intro d e; cases e; decide)) ?_
        · intro T wx K hB hF hD hK
          have g57 := get_eqS (hD 3 57 (by simp [Region.binds]) (by kernel_rfl)) s57
          refine ob_yes (wanted_none rfl) ?_
          clear hF hD
          have jc1 := (hB.cell (World.block_lt_of_cell? _ _ c1)).trans c1
          have jc2 := (hB.cell (World.block_lt_of_cell? _ _ c2)).trans c2
          have jc3 := (hB.cell (World.block_lt_of_cell? _ _ c3)).trans c3
          go_simp
          exact hK _ _ (Below.refl _ _) (rt_eqS s58)
        refine obsF_cons (obF_of ?_ (by intro d e; cases e; decide)) ?_
        · intro T wx K hB hF hD hK
          have g54 := get_eqS (hD 0 54 (by simp [Region.binds]) (by kernel_rfl)) s54
          have g58 := get_eqS (hD 4 58 (by simp [Region.binds]) (by kernel_rfl)) s58
          refine ob_yes (wanted_none rfl) ?_
          clear hF hD
          go_simp
          refine (jpts_is X Y n0 n1 n2 W l0 l1 l2 h0 h1 h2 x y z ex1 ex2 x3 ey1 ey2 y3 eu1 eu2 eu3 ev1 ev2 ev3 ea1 ea2 a3 eb1 eb2 b3 _ (TW.out.below hB) kx ky kz V QP).mono ?_; rintro e w9 ⟨rfl, hb⟩
          exact hK _ _ hb (rt_eqS s59)
        refine obsF_cons ?_ ?_
        · intro T wx K hB hF hD hK
          refine ob_yes (wanted_none rfl) ?_
          clear hF hD
          go_simp
          exact hK _ _ (belA (Below.refl _ _) _) (fun d e => by cases e; exact ⟨rt_S s13 ⟨_, rfl, hB.size, blk_new _ _ _ rfl⟩ _ rfl, fun _ => rfl⟩)
        exact obsF_nil
      · intro T17 w8 hb8 hF hs hD hN
        have g54 := get_eqS (hD 0 54 (by decide) (by kernel_rfl)) s54
        have g55 := get_eqS (hD 1 55 (by decide) (by kernel_rfl)) s55
        have g56 := get_eqS (hD 2 56 (by decide) (by kernel_rfl)) s56
        have g57 := get_eqS (hD 3 57 (by decide) (by kernel_rfl)) s57
        have g58 := get_eqS (hD 4 58 (by decide) (by kernel_rfl)) s58
        have g59 := get_eqS (hD 5 59 (by decide) (by kernel_rfl)) s59
        obtain ⟨v13, g13, p13⟩ := getS (hD 6 13 (by decide) (by kernel_rfl)) s13
        have hT9 := conc [(54, .agg #[.int .i64 X, .int .i64 Y, .int .i64 n0, .int .i64 n1, .int .i64 n2, .int .i64 W, .int .i64 l0, .int .i64 l1, .int .i64 l2, .int .i64 h0, .int .i64 h1, .int .i64 h2]), (55, .slice (some ⟨b', o', none⟩) N sc), (56, .int .i64 j), (57, .pointer (some ⟨b', o' + j * 3, none⟩)), (58, .agg #[.int .i64 x, .int .i64 y, .int .i64 z]), (59, .agg #[.int .i64 X, .int .i64 Y, .int .i64 ea1, .int .i64 eb1, .int .i64 ea2, .int .i64 eb2, .int .i64 a3, .int .i64 b3]), (13, v13)] hs hF (by simp only [List.forall_mem_cons]; exact ⟨g54, g55, g56, g57, g58, g59, g13, fun p hp => absurd hp List.not_mem_nil⟩) (by kernel_rfl)
        simp only [List.foldl, List.setIfInBounds_toArray, List.set_cons_succ, List.set_cons_zero] at hT9
        subst hT9
        clear hF hD hs hN g54 g55 g56 g57 g58 g59 g13 s13 s54 s55 s56 s57 s58 s59
        show wpOpsIn _ _ _ _ _ [7] _ _
        obtain ⟨b3x, rfl, hsb3x, hb3x⟩ := p13
        refine tail_store rfl rfl rfl rfl rfl 44 (.tmp 13) (.tmp 59) rfl rfl b3x #[.int .i64 X, .int .i64 Y, .int .i64 ea1, .int .i64 eb1, .int .i64 ea2, .int .i64 eb2, .int .i64 a3, .int .i64 b3] rfl rfl _ _ hb3x (by kernel_rfl) rfl (by kernel_rfl) ?_
        have H13 := Lib.hid (setRow_heap w8 b3x _ #[.int .i64 X, .int .i64 Y, .int .i64 ea1, .int .i64 eb1, .int .i64 ea2, .int .i64 eb2, .int .i64 a3, .int .i64 b3] _ _ hb3x)
        have neHAr := Nat.ne_of_lt (Nat.lt_of_lt_of_le (blk_lt HAr.out) hsb3x)
        replace HAr := Lib.hid ((setRow_other w8 b3x _ #[.int .i64 X, .int .i64 Y, .int .i64 ea1, .int .i64 eb1, .int .i64 ea2, .int .i64 eb2, .int .i64 a3, .int .i64 b3] neHAr).trans (blk_call HAr.out hb8))
        clear neHAr
        have neHPr := Nat.ne_of_lt (Nat.lt_of_lt_of_le (blk_lt HPr.out) hsb3x)
        replace HPr := Lib.hid ((setRow_other w8 b3x _ #[.int .i64 X, .int .i64 Y, .int .i64 ea1, .int .i64 eb1, .int .i64 ea2, .int .i64 eb2, .int .i64 a3, .int .i64 b3] neHPr).trans (blk_call HPr.out hb8))
        clear neHPr
        have neHDr := Nat.ne_of_lt (Nat.lt_of_lt_of_le (blk_lt HDr.out) hsb3x)
        replace HDr := Lib.hid ((setRow_other w8 b3x _ #[.int .i64 X, .int .i64 Y, .int .i64 ea1, .int .i64 eb1, .int .i64 ea2, .int .i64 eb2, .int .i64 a3, .int .i64 b3] neHDr).trans (blk_call HDr.out hb8))
        clear neHDr
        have hbX : Below Wx.heap.size Wx (w8.setRow b3x #[.int .i64 X, .int .i64 Y, .int .i64 ea1, .int .i64 eb1, .int .i64 ea2, .int .i64 eb2, .int .i64 a3, .int .i64 b3]) := below_setRow7 hb8 hsb3x #[.int .i64 X, .int .i64 Y, .int .i64 ea1, .int .i64 eb1, .int .i64 ea2, .int .i64 eb2, .int .i64 a3, .int .i64 b3]
        replace c1 := (hbX.cell (World.block_lt_of_cell? _ _ c1)).trans c1
        replace c2 := (hbX.cell (World.block_lt_of_cell? _ _ c2)).trans c2
        replace c3 := (hbX.cell (World.block_lt_of_cell? _ _ c3)).trans c3
        replace ROWr := Lib.hid (prow3_below ROWr.out hbX)
        replace HB := Lib.hid (belT HB.out hbX)
        replace B := Lib.hid (belT B.out hbX)
        replace TW := Lib.hid (Tab.below TT.out B.out)
        simp only [wpOpsIn]
        clear hbX hb8 hsb3x hb3x
        generalize w8.setRow b3x #[.int .i64 X, .int .i64 Y, .int .i64 ea1, .int .i64 eb1, .int .i64 ea2, .int .i64 eb2, .int .i64 a3, .int .i64 b3] = Wy at *
        go_upto_region 18 with fail
        obtain ⟨sp, hsp⟩ : ∃ sp : ToldS, sp = [none, none, none, none, none, none, none, none, none, none, none, none, none, none, some (newS Wy.heap.size #[.int .i64 0, .int .i64 0, .int .i64 0, .int .i64 0, .int .i64 0, .int .i64 0, .int .i64 0, .int .i64 0, .int .i64 0] 46), none, none, none, none, none, none, none, none, none, none, none, none, none, none, none, none, none, none, none, none, none, none, none, none, none, none, none, none, none, none, none, none, none, none, none, none, none, none, none, none, none, none, none, none, none, some (eqS (.agg #[.int .i64 X, .int .i64 Y, .int .i64 n0, .int .i64 n1, .int .i64 n2, .int .i64 W, .int .i64 l0, .int .i64 l1, .int .i64 l2, .int .i64 h0, .int .i64 h1, .int .i64 h2])), some (eqS (.slice (some ⟨b', o', none⟩) N sc)), some (eqS (.int .i64 j)), some (eqS (.pointer (some ⟨b', o' + j * 3, none⟩))), some (eqS (.agg #[.int .i64 x, .int .i64 y, .int .i64 z])), some (eqS (.agg #[.int .i64 ex1, .int .i64 ey1, .int .i64 1, .int .i64 ex2, .int .i64 ey2, .int .i64 2, .int .i64 x3, .int .i64 y3, .int .i64 3]))] := ⟨_, rfl⟩
        have s14 : sp.getD 14 none = some (newS Wy.heap.size #[.int .i64 0, .int .i64 0, .int .i64 0, .int .i64 0, .int .i64 0, .int .i64 0, .int .i64 0, .int .i64 0, .int .i64 0] 46) := by rw [hsp]; rfl
        have s60 : sp.getD 60 none = some (eqS (.agg #[.int .i64 X, .int .i64 Y, .int .i64 n0, .int .i64 n1, .int .i64 n2, .int .i64 W, .int .i64 l0, .int .i64 l1, .int .i64 l2, .int .i64 h0, .int .i64 h1, .int .i64 h2])) := by rw [hsp]; rfl
        have s61 : sp.getD 61 none = some (eqS (.slice (some ⟨b', o', none⟩) N sc)) := by rw [hsp]; rfl
        have s62 : sp.getD 62 none = some (eqS (.int .i64 j)) := by rw [hsp]; rfl
        have s63 : sp.getD 63 none = some (eqS (.pointer (some ⟨b', o' + j * 3, none⟩))) := by rw [hsp]; rfl
        have s64 : sp.getD 64 none = some (eqS (.agg #[.int .i64 x, .int .i64 y, .int .i64 z])) := by rw [hsp]; rfl
        have s65 : sp.getD 65 none = some (eqS (.agg #[.int .i64 ex1, .int .i64 ey1, .int .i64 1, .int .i64 ex2, .int .i64 ey2, .int .i64 2, .int .i64 x3, .int .i64 y3, .int .i64 3])) := by rw [hsp]; rfl
        clear hsp
        refine (wpIn_wide (n := 0)).1 (region_headF (FS := [14]) (RtS sp) (rtS_keep sp) (fun t v w ht h => by rcases (by simpa using ht : t = 14) with rfl <;> first | exact newS_fresh s14 h) 7 rfl rfl rfl (by kernel_rfl) (by decide) (by kernel_rfl) (by kernel_rfl) (by kernel_rfl) ?_ ?_)
        · intro Q'; show ObsF _ _ _ _ _ _ _ _ _ (List.take _ _); simp only [List.take_succ_cons, List.take_zero]
          refine obsF_cons (obF_of ?_ (by intro d e; cases e; decide)) ?_
          · intro T wx K hB hF hD hK
            have g2 : T[2]? = some (.pointer (some ⟨ba, 0, none⟩)) := hF 2 (freeM_of (by kernel_rfl))
            refine ob_yes (wanted_none rfl) ?_
            clear hF hD
            exact wp_load_row 27 (.tmp 2) rfl _ (eval_tmp g2) _ _ _ _ (blk_call HAr.out hB) Tryd.underlying27 rfl (by kernel_rfl) (hK _ _ (Below.refl _ _) (rt_eqS s60))
          refine obsF_cons (obF_of ?_ (by intro d e; cases e; decide)) ?_
          · intro T wx K hB hF hD hK
            have g10 : T[10]? = some (.slice (some ⟨b', o', none⟩) N sc) := hF 10 (freeM_of (by kernel_rfl))
            refine ob_yes (wanted_none rfl) ?_
            clear hF hD
            go_simp
            exact hK _ _ (Below.refl _ _) (rt_eqS s61)
          refine obsF_cons (obF_of ?_ (by intro d e; cases e; decide)) ?_
          · intro T wx K hB hF hD hK
            have g12 : T[12]? = some (.int .i64 j) := hF 12 (freeM_of (by kernel_rfl))
            refine ob_yes (wanted_none rfl) ?_
            clear hF hD
            go_simp
            exact hK _ _ (Below.refl _ _) (rt_eqS s62)
          refine obsF_cons (obF_of ?_ (by intro d e; cases e; decide)) ?_
          · intro T wx K hB hF hD hK
            have g61 := get_eqS (hD 1 61 (by simp [Region.binds]) (by kernel_rfl)) s61
            have g62 := get_eqS (hD 2 62 (by simp [Region.binds]) (by kernel_rfl)) s62
            refine ob_yes (wanted_none rfl) ?_
            clear hF hD
            go_simp
            exact hK _ _ (Below.refl _ _) (rt_eqS s63)
          refine obsF_cons (obF_of ?_ (by intro d e; cases e; decide)) ?_
          · intro T wx K hB hF hD hK
            have g63 := get_eqS (hD 3 63 (by simp [Region.binds]) (by kernel_rfl)) s63
            refine ob_yes (wanted_none rfl) ?_
            clear hF hD
            have jc1 := (hB.cell (World.block_lt_of_cell? _ _ c1)).trans c1
            have jc2 := (hB.cell (World.block_lt_of_cell? _ _ c2)).trans c2
            have jc3 := (hB.cell (World.block_lt_of_cell? _ _ c3)).trans c3
            go_simp
            exact hK _ _ (Below.refl _ _) (rt_eqS s64)
          refine obsF_cons (obF_of ?_ (by intro d e; cases e; decide)) ?_
          · intro T wx K hB hF hD hK
            have g60 := get_eqS (hD 0 60 (by simp [Region.binds]) (by kernel_rfl)) s60
            have g64 := get_eqS (hD 4 64 (by simp [Region.binds]) (by kernel_rfl)) s64
            refine ob_yes (wanted_none rfl) ?_
            clear hF hD
            go_simp
            refine (ldirs_is X Y n0 n1 n2 W l0 l1 l2 h0 h1 h2 x y z ex1 ey1 ex2 ey2 x3 y3 _ (TW.out.below hB) kx ky kz (Lib.hid QP.out.e1) (Lib.hid QP.out.e2) (Lib.hid QP.out.e3)).mono ?_; rintro e w9 ⟨rfl, hb⟩
            exact hK _ _ hb (rt_eqS s65)
          refine obsF_cons ?_ ?_
          · intro T wx K hB hF hD hK
            refine ob_yes (wanted_none rfl) ?_
            clear hF hD
            go_simp
            exact hK _ _ (belA (Below.refl _ _) _) (fun d e => by cases e; exact ⟨rt_S s14 ⟨_, rfl, hB.size, blk_new _ _ _ rfl⟩ _ rfl, fun _ => rfl⟩)
          exact obsF_nil
        · intro T18 w8 hb8 hF hs hD hN
          have g60 := get_eqS (hD 0 60 (by decide) (by kernel_rfl)) s60
          have g61 := get_eqS (hD 1 61 (by decide) (by kernel_rfl)) s61
          have g62 := get_eqS (hD 2 62 (by decide) (by kernel_rfl)) s62
          have g63 := get_eqS (hD 3 63 (by decide) (by kernel_rfl)) s63
          have g64 := get_eqS (hD 4 64 (by decide) (by kernel_rfl)) s64
          have g65 := get_eqS (hD 5 65 (by decide) (by kernel_rfl)) s65
          obtain ⟨v14, g14, p14⟩ := getS (hD 6 14 (by decide) (by kernel_rfl)) s14
          have hT9 := conc [(60, .agg #[.int .i64 X, .int .i64 Y, .int .i64 n0, .int .i64 n1, .int .i64 n2, .int .i64 W, .int .i64 l0, .int .i64 l1, .int .i64 l2, .int .i64 h0, .int .i64 h1, .int .i64 h2]), (61, .slice (some ⟨b', o', none⟩) N sc), (62, .int .i64 j), (63, .pointer (some ⟨b', o' + j * 3, none⟩)), (64, .agg #[.int .i64 x, .int .i64 y, .int .i64 z]), (65, .agg #[.int .i64 ex1, .int .i64 ey1, .int .i64 1, .int .i64 ex2, .int .i64 ey2, .int .i64 2, .int .i64 x3, .int .i64 y3, .int .i64 3]), (14, v14)] hs hF (by simp only [List.forall_mem_cons]; exact ⟨g60, g61, g62, g63, g64, g65, g14, fun p hp => absurd hp List.not_mem_nil⟩) (by kernel_rfl)
          simp only [List.foldl, List.setIfInBounds_toArray, List.set_cons_succ, List.set_cons_zero] at hT9
          subst hT9
          clear hF hD hs hN g60 g61 g62 g63 g64 g65 g14 s14 s60 s61 s62 s63 s64 s65
          show wpOpsIn _ _ _ _ _ [7] _ _
          obtain ⟨b4x, rfl, hsb4x, hb4x⟩ := p14
          refine tail_store rfl rfl rfl rfl rfl 46 (.tmp 14) (.tmp 65) rfl rfl b4x #[.int .i64 ex1, .int .i64 ey1, .int .i64 1, .int .i64 ex2, .int .i64 ey2, .int .i64 2, .int .i64 x3, .int .i64 y3, .int .i64 3] rfl rfl _ _ hb4x (by kernel_rfl) rfl (by kernel_rfl) ?_
          have H14 := Lib.hid (setRow_heap w8 b4x _ #[.int .i64 ex1, .int .i64 ey1, .int .i64 1, .int .i64 ex2, .int .i64 ey2, .int .i64 2, .int .i64 x3, .int .i64 y3, .int .i64 3] _ _ hb4x)
          have neHAr := Nat.ne_of_lt (Nat.lt_of_lt_of_le (blk_lt HAr.out) hsb4x)
          replace HAr := Lib.hid ((setRow_other w8 b4x _ #[.int .i64 ex1, .int .i64 ey1, .int .i64 1, .int .i64 ex2, .int .i64 ey2, .int .i64 2, .int .i64 x3, .int .i64 y3, .int .i64 3] neHAr).trans (blk_call HAr.out hb8))
          clear neHAr
          have neHPr := Nat.ne_of_lt (Nat.lt_of_lt_of_le (blk_lt HPr.out) hsb4x)
          replace HPr := Lib.hid ((setRow_other w8 b4x _ #[.int .i64 ex1, .int .i64 ey1, .int .i64 1, .int .i64 ex2, .int .i64 ey2, .int .i64 2, .int .i64 x3, .int .i64 y3, .int .i64 3] neHPr).trans (blk_call HPr.out hb8))
          clear neHPr
          have neHDr := Nat.ne_of_lt (Nat.lt_of_lt_of_le (blk_lt HDr.out) hsb4x)
          replace HDr := Lib.hid ((setRow_other w8 b4x _ #[.int .i64 ex1, .int .i64 ey1, .int .i64 1, .int .i64 ex2, .int .i64 ey2, .int .i64 2, .int .i64 x3, .int .i64 y3, .int .i64 3] neHDr).trans (blk_call HDr.out hb8))
          clear neHDr
          have neH13 := Nat.ne_of_lt (Nat.lt_of_lt_of_le (blk_lt H13.out) hsb4x)
          replace H13 := Lib.hid ((setRow_other w8 b4x _ #[.int .i64 ex1, .int .i64 ey1, .int .i64 1, .int .i64 ex2, .int .i64 ey2, .int .i64 2, .int .i64 x3, .int .i64 y3, .int .i64 3] neH13).trans (blk_call H13.out hb8))
          clear neH13
          have hbX : Below Wy.heap.size Wy (w8.setRow b4x #[.int .i64 ex1, .int .i64 ey1, .int .i64 1, .int .i64 ex2, .int .i64 ey2, .int .i64 2, .int .i64 x3, .int .i64 y3, .int .i64 3]) := below_setRow7 hb8 hsb4x #[.int .i64 ex1, .int .i64 ey1, .int .i64 1, .int .i64 ex2, .int .i64 ey2, .int .i64 2, .int .i64 x3, .int .i64 y3, .int .i64 3]
          replace c1 := (hbX.cell (World.block_lt_of_cell? _ _ c1)).trans c1
          replace c2 := (hbX.cell (World.block_lt_of_cell? _ _ c2)).trans c2
          replace c3 := (hbX.cell (World.block_lt_of_cell? _ _ c3)).trans c3
          replace ROWr := Lib.hid (prow3_below ROWr.out hbX)
          replace HB := Lib.hid (belT HB.out hbX)
          replace B := Lib.hid (belT B.out hbX)
          replace TW := Lib.hid (Tab.below TT.out B.out)
          simp only [wpOpsIn]
          clear hbX hb8 hsb4x hb4x
          generalize w8.setRow b4x #[.int .i64 ex1, .int .i64 ey1, .int .i64 1, .int .i64 ex2, .int .i64 ey2, .int .i64 2, .int .i64 x3, .int .i64 y3, .int .i64 3] = Wz at *
          go_upto_region 19 with fail
          by_cases hj0 : j = 0
          · subst hj0
            obtain ⟨sp, hsp⟩ : ∃ sp : ToldS, sp = [none, none, none, none, none, none, none, none, none, none, none, none, none, none, none, none, none, none, none, none, none, none, none, none, none, none, none, none, none, none, none, none, none, none, none, none, none, none, none, none, none, none, none, none, none, none, none, none, none, none, none, none, none, none, none, none, none, none, none, none, none, none, none, none, none, none, some (eqS (.pointer (some ⟨b3x, 6, none⟩))), some (eqS (.agg #[.int .i64 a3, .int .i64 b3])), some (eqS (.pointer (some ⟨bp, 6, none⟩))), some (eqS (.agg #[.int .i64 a3, .int .i64 b3])), some (eqS (.bool false)), some (eqS (.bool false)), some (eqS (.pointer (some ⟨b4x, 6, none⟩))), some (eqS (.agg #[.int .i64 x3, .int .i64 y3, .int .i64 3])), some (eqS (.pointer (some ⟨bd, 6, none⟩))), some (eqS (.agg #[.int .i64 x3, .int .i64 y3, .int .i64 3])), some (eqS (.bool false)), some (eqS (.bool false)), some (eqS (.bool false)), some (eqS (.int .i64 ((0 : Nat) : Int))), some (eqS (.bool false)), some (eqS (.bool false)), some (eqS (undef)), some (eqS (undef)), some (eqS (undef)), some (eqS (undef)), some (eqS (undef)), some (eqS (undef)), some (eqS (undef)), some (eqS (undef)), some (eqS (undef)), some (eqS (undef)), some (eqS (undef)), some (eqS (.bool false)), some (eqS (.bool false))] := ⟨_, rfl⟩
            have s66 : sp.getD 66 none = some (eqS (.pointer (some ⟨b3x, 6, none⟩))) := by rw [hsp]; rfl
            have s67 : sp.getD 67 none = some (eqS (.agg #[.int .i64 a3, .int .i64 b3])) := by rw [hsp]; rfl
            have s68 : sp.getD 68 none = some (eqS (.pointer (some ⟨bp, 6, none⟩))) := by rw [hsp]; rfl
            have s69 : sp.getD 69 none = some (eqS (.agg #[.int .i64 a3, .int .i64 b3])) := by rw [hsp]; rfl
            have s70 : sp.getD 70 none = some (eqS (.bool false)) := by rw [hsp]; rfl
            have s71 : sp.getD 71 none = some (eqS (.bool false)) := by rw [hsp]; rfl
            have s72 : sp.getD 72 none = some (eqS (.pointer (some ⟨b4x, 6, none⟩))) := by rw [hsp]; rfl
            have s73 : sp.getD 73 none = some (eqS (.agg #[.int .i64 x3, .int .i64 y3, .int .i64 3])) := by rw [hsp]; rfl
            have s74 : sp.getD 74 none = some (eqS (.pointer (some ⟨bd, 6, none⟩))) := by rw [hsp]; rfl
            have s75 : sp.getD 75 none = some (eqS (.agg #[.int .i64 x3, .int .i64 y3, .int .i64 3])) := by rw [hsp]; rfl
            have s76 : sp.getD 76 none = some (eqS (.bool false)) := by rw [hsp]; rfl
            have s77 : sp.getD 77 none = some (eqS (.bool false)) := by rw [hsp]; rfl
            have s78 : sp.getD 78 none = some (eqS (.bool false)) := by rw [hsp]; rfl
            have s79 : sp.getD 79 none = some (eqS (.int .i64 ((0 : Nat) : Int))) := by rw [hsp]; rfl
            have s80 : sp.getD 80 none = some (eqS (.bool false)) := by rw [hsp]; rfl
            have s81 : sp.getD 81 none = some (eqS (.bool false)) := by rw [hsp]; rfl
            have s82 : sp.getD 82 none = some (eqS (undef)) := by rw [hsp]; rfl
            have s83 : sp.getD 83 none = some (eqS (undef)) := by rw [hsp]; rfl
            have s84 : sp.getD 84 none = some (eqS (undef)) := by rw [hsp]; rfl
            have s85 : sp.getD 85 none = some (eqS (undef)) := by rw [hsp]; rfl
            have s86 : sp.getD 86 none = some (eqS (undef)) := by rw [hsp]; rfl
            have s87 : sp.getD 87 none = some (eqS (undef)) := by rw [hsp]; rfl
            have s88 : sp.getD 88 none = some (eqS (undef)) := by rw [hsp]; rfl
            have s89 : sp.getD 89 none = some (eqS (undef)) := by rw [hsp]; rfl
            have s90 : sp.getD 90 none = some (eqS (undef)) := by rw [hsp]; rfl
            have s91 : sp.getD 91 none = some (eqS (undef)) := by rw [hsp]; rfl
            have s92 : sp.getD 92 none = some (eqS (undef)) := by rw [hsp]; rfl
            have s93 : sp.getD 93 none = some (eqS (.bool false)) := by rw [hsp]; rfl
            have s94 : sp.getD 94 none = some (eqS (.bool false)) := by rw [hsp]; rfl
            clear hsp
            refine (wpIn_wide (n := 0)).1 (region_allR (RtS sp) (rtS_keep sp) rfl rfl rfl (by kernel_rfl) (by kernel_rfl) (by kernel_rfl) ?_ ?_)
            · intro Q'
              refine obsR_cons ?_ ?_
              · intro T wx K hB hF hD hK
                have g13 : T[13]? = some (.pointer (some ⟨b3x, 0, none⟩)) := hF 13 (freeM_of (by kernel_rfl))
                refine ob_yes (wanted_none rfl) ?_
                clear hF hD
                go_simp
                exact hK _ _ (Below.refl _ _) (rt_eqS s66)
              refine obsR_cons ?_ ?_
              · intro T wx K hB hF hD hK
                have g66 := get_eqS (hD 0 66 (by simp [Region.binds]) (by kernel_rfl)) s66
                refine ob_yes (wanted_none rfl) ?_
                clear hF hD
                have c6x := blk_cell (blk_call H13.out hB) 6 _ rfl
                have c7x := blk_cell (blk_call H13.out hB) 7 _ rfl
                go_simp
                exact hK _ _ (Below.refl _ _) (rt_eqS s67)
              refine obsR_cons ?_ ?_
              · intro T wx K hB hF hD hK
                have g8 : T[8]? = some (.pointer (some ⟨bp, 0, none⟩)) := hF 8 (freeM_of (by kernel_rfl))
                refine ob_yes (wanted_none rfl) ?_
                clear hF hD
                go_simp
                exact hK _ _ (Below.refl _ _) (rt_eqS s68)
              refine obsR_cons ?_ ?_
              · intro T wx K hB hF hD hK
                have g68 := get_eqS (hD 2 68 (by simp [Region.binds]) (by kernel_rfl)) s68
                refine ob_yes (wanted_none rfl) ?_
                clear hF hD
                have c6x := blk_cell (blk_call HPr.out hB) 6 _ rfl
                have c7x := blk_cell (blk_call HPr.out hB) 7 _ rfl
                go_simp
                exact hK _ _ (Below.refl _ _) (rt_eqS s69)
              refine obsR_cons ?_ ?_
              · intro T wx K hB hF hD hK
                have g67 := get_eqS (hD 1 67 (by simp [Region.binds]) (by kernel_rfl)) s67
                have g69 := get_eqS (hD 3 69 (by simp [Region.binds]) (by kernel_rfl)) s69
                refine ob_yes (wanted_none rfl) ?_
                clear hF hD
                go_simp
                exact hK _ _ (Below.refl _ _) (rt_eqS s70)
              refine obsR_cons ?_ ?_
              · intro T wx K hB hF hD hK
                have g70 := get_eqS (hD 4 70 (by simp [Region.binds]) (by kernel_rfl)) s70
                refine ob_yes (wanted_none rfl) ?_
                clear hF hD
                go_simp
                exact hK _ _ (Below.refl _ _) (rt_eqS s71)
              refine obsR_cons ?_ ?_
              · intro T wx K hB hF hD hK
                have g71 := get_eqS (hD 5 71 (by simp [Region.binds]) (by kernel_rfl)) s71
                have g14 : T[14]? = some (.pointer (some ⟨b4x, 0, none⟩)) := hF 14 (freeM_of (by kernel_rfl))
                refine ob_yes (wanted_yes rfl (by kernel_rfl) g71) ?_
                clear hF hD
                go_simp
                exact hK _ _ (Below.refl _ _) (rt_eqS s72)
              refine obsR_cons ?_ ?_
              · intro T wx K hB hF hD hK
                have g71 := get_eqS (hD 5 71 (by simp [Region.binds]) (by kernel_rfl)) s71
                have g72 := get_eqS (hD 6 72 (by simp [Region.binds]) (by kernel_rfl)) s72
                refine ob_yes (wanted_yes rfl (by kernel_rfl) g71) ?_
                clear hF hD
                have c6x := blk_cell (blk_call H14.out hB) 6 _ rfl
                have c7x := blk_cell (blk_call H14.out hB) 7 _ rfl
                have c8x := blk_cell (blk_call H14.out hB) 8 _ rfl
                go_simp
                exact hK _ _ (Below.refl _ _) (rt_eqS s73)
              refine obsR_cons ?_ ?_
              · intro T wx K hB hF hD hK
                have g71 := get_eqS (hD 5 71 (by simp [Region.binds]) (by kernel_rfl)) s71
                have g9 : T[9]? = some (.pointer (some ⟨bd, 0, none⟩)) := hF 9 (freeM_of (by kernel_rfl))
                refine ob_yes (wanted_yes rfl (by kernel_rfl) g71) ?_
                clear hF hD
                go_simp
                exact hK _ _ (Below.refl _ _) (rt_eqS s74)
              refine obsR_cons ?_ ?_
              · intro T wx K hB hF hD hK
                have g71 := get_eqS (hD 5 71 (by simp [Region.binds]) (by kernel_rfl)) s71
                have g74 := get_eqS (hD 8 74 (by simp [Region.binds]) (by kernel_rfl)) s74
                refine ob_yes (wanted_yes rfl (by kernel_rfl) g71) ?_
                clear hF hD
                have c6x := blk_cell (blk_call HDr.out hB) 6 _ rfl
                have c7x := blk_cell (blk_call HDr.out hB) 7 _ rfl
                have c8x := blk_cell (blk_call HDr.out hB) 8 _ rfl
                go_simp
                exact hK _ _ (Below.refl _ _) (rt_eqS s75)
              refine obsR_cons ?_ ?_
              · intro T wx K hB hF hD hK
                have g71 := get_eqS (hD 5 71 (by simp [Region.binds]) (by kernel_rfl)) s71
                have g73 := get_eqS (hD 7 73 (by simp [Region.binds]) (by kernel_rfl)) s73
                have g75 := get_eqS (hD 9 75 (by simp [Region.binds]) (by kernel_rfl)) s75
                refine ob_yes (wanted_yes rfl (by kernel_rfl) g71) ?_
                clear hF hD
                go_simp
                exact hK _ _ (Below.refl _ _) (rt_eqS s76)
              refine obsR_cons ?_ ?_
              · intro T wx K hB hF hD hK
                have g71 := get_eqS (hD 5 71 (by simp [Region.binds]) (by kernel_rfl)) s71
                have g76 := get_eqS (hD 10 76 (by simp [Region.binds]) (by kernel_rfl)) s76
                refine ob_yes (wanted_none rfl) ?_
                clear hF hD
                go_simp
                exact hK _ _ (Below.refl _ _) (rt_eqS s77)
              refine obsR_cons ?_ ?_
              · intro T wx K hB hF hD hK
                have g77 := get_eqS (hD 11 77 (by simp [Region.binds]) (by kernel_rfl)) s77
                refine ob_yes (wanted_none rfl) ?_
                clear hF hD
                go_simp
                exact hK _ _ (Below.refl _ _) (rt_eqS s78)
              refine obsR_cons ?_ ?_
              · intro T wx K hB hF hD hK
                have g78 := get_eqS (hD 12 78 (by simp [Region.binds]) (by kernel_rfl)) s78
                have g12 : T[12]? = some (.int .i64 (((0 : Nat) : Int))) := hF 12 (freeM_of (by kernel_rfl))
                refine ob_yes (wanted_yes rfl (by kernel_rfl) g78) ?_
                clear hF hD
                go_simp
                exact hK _ _ (Below.refl _ _) (rt_eqS s79)
              refine obsR_cons ?_ ?_
              · intro T wx K hB hF hD hK
                have g78 := get_eqS (hD 12 78 (by simp [Region.binds]) (by kernel_rfl)) s78
                have g79 := get_eqS (hD 13 79 (by simp [Region.binds]) (by kernel_rfl)) s79
                refine ob_yes (wanted_yes rfl (by kernel_rfl) g78) ?_
                clear hF hD
                go_simp
                exact hK _ _ (Below.refl _ _) (rt_eqS s80)
              refine obsR_cons ?_ ?_
              · intro T wx K hB hF hD hK
                have g78 := get_eqS (hD 12 78 (by simp [Region.binds]) (by kernel_rfl)) s78
                have g80 := get_eqS (hD 14 80 (by simp [Region.binds]) (by kernel_rfl)) s80
                refine ob_yes (wanted_yes rfl (by kernel_rfl) g78) ?_
                clear hF hD
                go_simp
                exact hK _ _ (Below.refl _ _) (rt_eqS s81)
              refine obsR_cons ?_ ?_
              · intro T wx K hB hF hD hK
                have g81 := get_eqS (hD 15 81 (by simp [Region.binds]) (by kernel_rfl)) s81
                refine ob_no (wanted_no rfl (by kernel_rfl) g81 rfl) ?_
                exact hK _ _ (Below.refl _ _) (rt_eqS s82)
              refine obsR_cons ?_ ?_
              · intro T wx K hB hF hD hK
                have g81 := get_eqS (hD 15 81 (by simp [Region.binds]) (by kernel_rfl)) s81
                refine ob_no (wanted_no rfl (by kernel_rfl) g81 rfl) ?_
                exact hK _ _ (Below.refl _ _) (rt_eqS s83)
              refine obsR_cons ?_ ?_
              · intro T wx K hB hF hD hK
                have g81 := get_eqS (hD 15 81 (by simp [Region.binds]) (by kernel_rfl)) s81
                refine ob_no (wanted_no rfl (by kernel_rfl) g81 rfl) ?_
                exact hK _ _ (Below.refl _ _) (rt_eqS s84)
              refine obsR_cons ?_ ?_
              · intro T wx K hB hF hD hK
                have g81 := get_eqS (hD 15 81 (by simp [Region.binds]) (by kernel_rfl)) s81
                refine ob_no (wanted_no rfl (by kernel_rfl) g81 rfl) ?_
                exact hK _ _ (Below.refl _ _) (rt_eqS s85)
              refine obsR_cons ?_ ?_
              · intro T wx K hB hF hD hK
                have g81 := get_eqS (hD 15 81 (by simp [Region.binds]) (by kernel_rfl)) s81
                refine ob_no (wanted_no rfl (by kernel_rfl) g81 rfl) ?_
                exact hK _ _ (Below.refl _ _) (rt_eqS s86)
              refine obsR_cons ?_ ?_
              · intro T wx K hB hF hD hK
                have g81 := get_eqS (hD 15 81 (by simp [Region.binds]) (by kernel_rfl)) s81
                refine ob_no (wanted_no rfl (by kernel_rfl) g81 rfl) ?_
                exact hK _ _ (Below.refl _ _) (rt_eqS s87)
              refine obsR_cons ?_ ?_
              · intro T wx K hB hF hD hK
                have g81 := get_eqS (hD 15 81 (by simp [Region.binds]) (by kernel_rfl)) s81
                refine ob_no (wanted_no rfl (by kernel_rfl) g81 rfl) ?_
                exact hK _ _ (Below.refl _ _) (rt_eqS s88)
              refine obsR_cons ?_ ?_
              · intro T wx K hB hF hD hK
                have g81 := get_eqS (hD 15 81 (by simp [Region.binds]) (by kernel_rfl)) s81
                refine ob_no (wanted_no rfl (by kernel_rfl) g81 rfl) ?_
                exact hK _ _ (Below.refl _ _) (rt_eqS s89)
              refine obsR_cons ?_ ?_
              · intro T wx K hB hF hD hK
                have g81 := get_eqS (hD 15 81 (by simp [Region.binds]) (by kernel_rfl)) s81
                refine ob_no (wanted_no rfl (by kernel_rfl) g81 rfl) ?_
                exact hK _ _ (Below.refl _ _) (rt_eqS s90)
              refine obsR_cons ?_ ?_
              · intro T wx K hB hF hD hK
                have g81 := get_eqS (hD 15 81 (by simp [Region.binds]) (by kernel_rfl)) s81
                refine ob_no (wanted_no rfl (by kernel_rfl) g81 rfl) ?_
                exact hK _ _ (Below.refl _ _) (rt_eqS s91)
              refine obsR_cons ?_ ?_
              · intro T wx K hB hF hD hK
                have g81 := get_eqS (hD 15 81 (by simp [Region.binds]) (by kernel_rfl)) s81
                refine ob_no (wanted_no rfl (by kernel_rfl) g81 rfl) ?_
                exact hK _ _ (Below.refl _ _) (rt_eqS s92)
              refine obsR_cons ?_ ?_
              · intro T wx K hB hF hD hK
                have g78 := get_eqS (hD 12 78 (by simp [Region.binds]) (by kernel_rfl)) s78
                have g81 := get_eqS (hD 15 81 (by simp [Region.binds]) (by kernel_rfl)) s81
                have g92 := get_eqS (hD 26 92 (by simp [Region.binds]) (by kernel_rfl)) s92
                refine ob_yes (wanted_yes rfl (by kernel_rfl) g78) ?_
                clear hF hD
                go_simp
                exact hK _ _ (Below.refl _ _) (rt_eqS s93)
              refine obsR_cons ?_ ?_
              · intro T wx K hB hF hD hK
                have g78 := get_eqS (hD 12 78 (by simp [Region.binds]) (by kernel_rfl)) s78
                have g93 := get_eqS (hD 27 93 (by simp [Region.binds]) (by kernel_rfl)) s93
                refine ob_yes (wanted_none rfl) ?_
                clear hF hD
                go_simp
                exact hK _ _ (Below.refl _ _) (rt_eqS s94)
              exact obsR_nil
            · intro Tq Wq hb8 hF hs hD
              have g66 := get_eqS (hD 0 66 (by decide) (by kernel_rfl)) s66
              have g67 := get_eqS (hD 1 67 (by decide) (by kernel_rfl)) s67
              have g68 := get_eqS (hD 2 68 (by decide) (by kernel_rfl)) s68
              have g69 := get_eqS (hD 3 69 (by decide) (by kernel_rfl)) s69
              have g70 := get_eqS (hD 4 70 (by decide) (by kernel_rfl)) s70
              have g71 := get_eqS (hD 5 71 (by decide) (by kernel_rfl)) s71
              have g72 := get_eqS (hD 6 72 (by decide) (by kernel_rfl)) s72
              have g73 := get_eqS (hD 7 73 (by decide) (by kernel_rfl)) s73
              have g74 := get_eqS (hD 8 74 (by decide) (by kernel_rfl)) s74
              have g75 := get_eqS (hD 9 75 (by decide) (by kernel_rfl)) s75
              have g76 := get_eqS (hD 10 76 (by decide) (by kernel_rfl)) s76
              have g77 := get_eqS (hD 11 77 (by decide) (by kernel_rfl)) s77
              have g78 := get_eqS (hD 12 78 (by decide) (by kernel_rfl)) s78
              have g79 := get_eqS (hD 13 79 (by decide) (by kernel_rfl)) s79
              have g80 := get_eqS (hD 14 80 (by decide) (by kernel_rfl)) s80
              have g81 := get_eqS (hD 15 81 (by decide) (by kernel_rfl)) s81
              have g82 := get_eqS (hD 16 82 (by decide) (by kernel_rfl)) s82
              have g83 := get_eqS (hD 17 83 (by decide) (by kernel_rfl)) s83
              have g84 := get_eqS (hD 18 84 (by decide) (by kernel_rfl)) s84
              have g85 := get_eqS (hD 19 85 (by decide) (by kernel_rfl)) s85
              have g86 := get_eqS (hD 20 86 (by decide) (by kernel_rfl)) s86
              have g87 := get_eqS (hD 21 87 (by decide) (by kernel_rfl)) s87
              have g88 := get_eqS (hD 22 88 (by decide) (by kernel_rfl)) s88
              have g89 := get_eqS (hD 23 89 (by decide) (by kernel_rfl)) s89
              have g90 := get_eqS (hD 24 90 (by decide) (by kernel_rfl)) s90
              have g91 := get_eqS (hD 25 91 (by decide) (by kernel_rfl)) s91
              have g92 := get_eqS (hD 26 92 (by decide) (by kernel_rfl)) s92
              have g93 := get_eqS (hD 27 93 (by decide) (by kernel_rfl)) s93
              have g94 := get_eqS (hD 28 94 (by decide) (by kernel_rfl)) s94
              have hT9 := conc [(66, .pointer (some ⟨b3x, 6, none⟩)), (67, .agg #[.int .i64 a3, .int .i64 b3]), (68, .pointer (some ⟨bp, 6, none⟩)), (69, .agg #[.int .i64 a3, .int .i64 b3]), (70, .bool false), (71, .bool false), (72, .pointer (some ⟨b4x, 6, none⟩)), (73, .agg #[.int .i64 x3, .int .i64 y3, .int .i64 3]), (74, .pointer (some ⟨bd, 6, none⟩)), (75, .agg #[.int .i64 x3, .int .i64 y3, .int .i64 3]), (76, .bool false), (77, .bool false), (78, .bool false), (79, .int .i64 ((0 : Nat) : Int)), (80, .bool false), (81, .bool false), (82, undef), (83, undef), (84, undef), (85, undef), (86, undef), (87, undef), (88, undef), (89, undef), (90, undef), (91, undef), (92, undef), (93, .bool false), (94, .bool false)] hs hF (by simp only [List.forall_mem_cons]; exact ⟨g66, g67, g68, g69, g70, g71, g72, g73, g74, g75, g76, g77, g78, g79, g80, g81, g82, g83, g84, g85, g86, g87, g88, g89, g90, g91, g92, g93, g94, fun p hp => absurd hp List.not_mem_nil⟩) (by kernel_rfl)
              simp only [List.foldl, List.setIfInBounds_toArray, List.set_cons_succ, List.set_cons_zero] at hT9
              subst hT9
              clear hF hD hs g66 g67 g68 g69 g70 g71 g72 g73 g74 g75 g76 g77 g78 g79 g80 g81 g82 g83 g84 g85 g86 g87 g88 g89 g90 g91 g92 g93 g94 s66 s67 s68 s69 s70 s71 s72 s73 s74 s75 s76 s77 s78 s79 s80 s81 s82 s83 s84 s85 s86 s87 s88 s89 s90 s91 s92 s93 s94
              replace HB := Lib.hid (belT HB.out hb8)
              go_wp2_with fail
              exact ⟨⟨1, by omega, by go_num, HB⟩, by simp [intOf]; omega⟩
          · obtain ⟨jm, hjm⟩ : ∃ jm : Nat, j = jm + 1 := ⟨j - 1, by omega⟩
            have hjL : jm < L.length := by omega
            obtain ⟨b'', o'', e', c4, c5, c6⟩ := ROWr.out jm hjL
            cases e'
            have HL3 := Lib.hid (SL.out (by omega))
            rw [show j - 1 = jm by omega] at HL3
            generalize L.getD jm j0 = eq2 at *
            obtain ⟨u, v, t⟩ := eq2
            have e84 : (j : Int) - 1 = (jm : Int) := by omega
            have hjmi : (jm : Int) < N := by omega
            have hj1 : (0 : Int) < j := by omega
            have hjb : (jm : Int) ≤ 36 := by omega
            have hjn : 0 < j := by omega
            have HJM := Lib.hid hjm
            clear hjm
            obtain ⟨sp, hsp⟩ : ∃ sp : ToldS, sp = [none, none, none, none, none, none, none, none, none, none, none, none, none, none, none, none, none, none, none, none, none, none, none, none, none, none, none, none, none, none, none, none, none, none, none, none, none, none, none, none, none, none, none, none, none, none, none, none, none, none, none, none, none, none, none, none, none, none, none, none, none, none, none, none, none, none, some (eqS (.pointer (some ⟨b3x, 6, none⟩))), some (eqS (.agg #[.int .i64 a3, .int .i64 b3])), some (eqS (.pointer (some ⟨bp, 6, none⟩))), some (eqS (.agg #[.int .i64 a3, .int .i64 b3])), some (eqS (.bool false)), some (eqS (.bool false)), some (eqS (.pointer (some ⟨b4x, 6, none⟩))), some (eqS (.agg #[.int .i64 x3, .int .i64 y3, .int .i64 3])), some (eqS (.pointer (some ⟨bd, 6, none⟩))), some (eqS (.agg #[.int .i64 x3, .int .i64 y3, .int .i64 3])), some (eqS (.bool false)), some (eqS (.bool false)), some (eqS (.bool false)), some (eqS (.int .i64 j)), some (eqS (.bool true)), some (eqS (.bool true)), some (eqS (.slice (some ⟨b', o', none⟩) N sc)), some (eqS (.int .i64 j)), some (eqS (.int .i64 jm)), some (eqS (.pointer (some ⟨b', o' + jm * 3, none⟩))), some (eqS (.agg #[.int .i64 u, .int .i64 v, .int .i64 t])), some (eqS (.slice (some ⟨b', o', none⟩) N sc)), some (eqS (.int .i64 j)), some (eqS (.pointer (some ⟨b', o' + j * 3, none⟩))), some (eqS (.agg #[.int .i64 x, .int .i64 y, .int .i64 z])), some (eqS (.bool true)), some (eqS (.bool false)), some (eqS (.bool false)), some (eqS (.bool false))] := ⟨_, rfl⟩
            have s66 : sp.getD 66 none = some (eqS (.pointer (some ⟨b3x, 6, none⟩))) := by rw [hsp]; rfl
            have s67 : sp.getD 67 none = some (eqS (.agg #[.int .i64 a3, .int .i64 b3])) := by rw [hsp]; rfl
            have s68 : sp.getD 68 none = some (eqS (.pointer (some ⟨bp, 6, none⟩))) := by rw [hsp]; rfl
            have s69 : sp.getD 69 none = some (eqS (.agg #[.int .i64 a3, .int .i64 b3])) := by rw [hsp]; rfl
            have s70 : sp.getD 70 none = some (eqS (.bool false)) := by rw [hsp]; rfl
            have s71 : sp.getD 71 none = some (eqS (.bool false)) := by rw [hsp]; rfl
            have s72 : sp.getD 72 none = some (eqS (.pointer (some ⟨b4x, 6, none⟩))) := by rw [hsp]; rfl
            have s73 : sp.getD 73 none = some (eqS (.agg #[.int .i64 x3, .int .i64 y3, .int .i64 3])) := by rw [hsp]; rfl
            have s74 : sp.getD 74 none = some (eqS (.pointer (some ⟨bd, 6, none⟩))) := by rw [hsp]; rfl
            have s75 : sp.getD 75 none = some (eqS (.agg #[.int .i64 x3, .int .i64 y3, .int .i64 3])) := by rw [hsp]; rfl
            have s76 : sp.getD 76 none = some (eqS (.bool false)) := by rw [hsp]; rfl
            have s77 : sp.getD 77 none = some (eqS (.bool false)) := by rw [hsp]; rfl
            have s78 : sp.getD 78 none = some (eqS (.bool false)) := by rw [hsp]; rfl
            have s79 : sp.getD 79 none = some (eqS (.int .i64 j)) := by rw [hsp]; rfl
            have s80 : sp.getD 80 none = some (eqS (.bool true)) := by rw [hsp]; rfl
            have s81 : sp.getD 81 none = some (eqS (.bool true)) := by rw [hsp]; rfl
            have s82 : sp.getD 82 none = some (eqS (.slice (some ⟨b', o', none⟩) N sc)) := by rw [hsp]; rfl
            have s83 : sp.getD 83 none = some (eqS (.int .i64 j)) := by rw [hsp]; rfl
            have s84 : sp.getD 84 none = some (eqS (.int .i64 jm)) := by rw [hsp]; rfl
            have s85 : sp.getD 85 none = some (eqS (.pointer (some ⟨b', o' + jm * 3, none⟩))) := by rw [hsp]; rfl
            have s86 : sp.getD 86 none = some (eqS (.agg #[.int .i64 u, .int .i64 v, .int .i64 t])) := by rw [hsp]; rfl
            have s87 : sp.getD 87 none = some (eqS (.slice (some ⟨b', o', none⟩) N sc)) := by rw [hsp]; rfl
            have s88 : sp.getD 88 none = some (eqS (.int .i64 j)) := by rw [hsp]; rfl
            have s89 : sp.getD 89 none = some (eqS (.pointer (some ⟨b', o' + j * 3, none⟩))) := by rw [hsp]; rfl
            have s90 : sp.getD 90 none = some (eqS (.agg #[.int .i64 x, .int .i64 y, .int .i64 z])) := by rw [hsp]; rfl
            have s91 : sp.getD 91 none = some (eqS (.bool true)) := by rw [hsp]; rfl
            have s92 : sp.getD 92 none = some (eqS (.bool false)) := by rw [hsp]; rfl
            have s93 : sp.getD 93 none = some (eqS (.bool false)) := by rw [hsp]; rfl
            have s94 : sp.getD 94 none = some (eqS (.bool false)) := by rw [hsp]; rfl
            clear hsp
            refine (wpIn_wide (n := 0)).1 (region_allR (RtS sp) (rtS_keep sp) rfl rfl rfl (by kernel_rfl) (by kernel_rfl) (by kernel_rfl) ?_ ?_)
            · intro Q'
              refine obsR_cons ?_ ?_
              · intro T wx K hB hF hD hK
                have g13 : T[13]? = some (.pointer (some ⟨b3x, 0, none⟩)) := hF 13 (freeM_of (by kernel_rfl))
                refine ob_yes (wanted_none rfl) ?_
                clear hF hD
                go_simp
                exact hK _ _ (Below.refl _ _) (rt_eqS s66)
              refine obsR_cons ?_ ?_
              · intro T wx K hB hF hD hK
                have g66 := get_eqS (hD 0 66 (by simp [Region.binds]) (by kernel_rfl)) s66
                refine ob_yes (wanted_none rfl) ?_
                clear hF hD
                have c6x := blk_cell (blk_call H13.out hB) 6 _ rfl
                have c7x := blk_cell (blk_call H13.out hB) 7 _ rfl
                go_simp
                exact hK _ _ (Below.refl _ _) (rt_eqS s67)
              refine obsR_cons ?_ ?_
              · intro T wx K hB hF hD hK
                have g8 : T[8]? = some (.pointer (some ⟨bp, 0, none⟩)) := hF 8 (freeM_of (by kernel_rfl))
                refine ob_yes (wanted_none rfl) ?_
                clear hF hD
                go_simp
                exact hK _ _ (Below.refl _ _) (rt_eqS s68)
              refine obsR_cons ?_ ?_
              · intro T wx K hB hF hD hK
                have g68 := get_eqS (hD 2 68 (by simp [Region.binds]) (by kernel_rfl)) s68
                refine ob_yes (wanted_none rfl) ?_
                clear hF hD
                have c6x := blk_cell (blk_call HPr.out hB) 6 _ rfl
                have c7x := blk_cell (blk_call HPr.out hB) 7 _ rfl
                go_simp
                exact hK _ _ (Below.refl _ _) (rt_eqS s69)
              refine obsR_cons ?_ ?_
              · intro T wx K hB hF hD hK
                have g67 := get_eqS (hD 1 67 (by simp [Region.binds]) (by kernel_rfl)) s67
                have g69 := get_eqS (hD 3 69 (by simp [Region.binds]) (by kernel_rfl)) s69
                refine ob_yes (wanted_none rfl) ?_
                clear hF hD
                go_simp
                exact hK _ _ (Below.refl _ _) (rt_eqS s70)
              refine obsR_cons ?_ ?_
              · intro T wx K hB hF hD hK
                have g70 := get_eqS (hD 4 70 (by simp [Region.binds]) (by kernel_rfl)) s70
                refine ob_yes (wanted_none rfl) ?_
                clear hF hD
                go_simp
                exact hK _ _ (Below.refl _ _) (rt_eqS s71)
              refine obsR_cons ?_ ?_
              · intro T wx K hB hF hD hK
                have g71 := get_eqS (hD 5 71 (by simp [Region.binds]) (by kernel_rfl)) s71
                have g14 : T[14]? = some (.pointer (some ⟨b4x, 0, none⟩)) := hF 14 (freeM_of (by kernel_rfl))
                refine ob_yes (wanted_yes rfl (by kernel_rfl) g71) ?_
                clear hF hD
                go_simp
                exact hK _ _ (Below.refl _ _) (rt_eqS s72)
              refine obsR_cons ?_ ?_
              · intro T wx K hB hF hD hK
                have g71 := get_eqS (hD 5 71 (by simp [Region.binds]) (by kernel_rfl)) s71
                have g72 := get_eqS (hD 6 72 (by simp [Region.binds]) (by kernel_rfl)) s72
                refine ob_yes (wanted_yes rfl (by kernel_rfl) g71) ?_
                clear hF hD
                have c6x := blk_cell (blk_call H14.out hB) 6 _ rfl
                have c7x := blk_cell (blk_call H14.out hB) 7 _ rfl
                have c8x := blk_cell (blk_call H14.out hB) 8 _ rfl
                go_simp
                exact hK _ _ (Below.refl _ _) (rt_eqS s73)
              refine obsR_cons ?_ ?_
              · intro T wx K hB hF hD hK
                have g71 := get_eqS (hD 5 71 (by simp [Region.binds]) (by kernel_rfl)) s71
                have g9 : T[9]? = some (.pointer (some ⟨bd, 0, none⟩)) := hF 9 (freeM_of (by kernel_rfl))
                refine ob_yes (wanted_yes rfl (by kernel_rfl) g71) ?_
                clear hF hD
                go_simp
                exact hK _ _ (Below.refl _ _) (rt_eqS s74)
              refine obsR_cons ?_ ?_
              · intro T wx K hB hF hD hK
                have g71 := get_eqS (hD 5 71 (by simp [Region.binds]) (by kernel_rfl)) s71
                have g74 := get_eqS (hD 8 74 (by simp [Region.binds]) (by kernel_rfl)) s74
                refine ob_yes (wanted_yes rfl (by kernel_rfl) g71) ?_
                clear hF hD
                have c6x := blk_cell (blk_call HDr.out hB) 6 _ rfl
                have c7x := blk_cell (blk_call HDr.out hB) 7 _ rfl
                have c8x := blk_cell (blk_call HDr.out hB) 8 _ rfl
                go_simp
                exact hK _ _ (Below.refl _ _) (rt_eqS s75)
              refine obsR_cons ?_ ?_
              · intro T wx K hB hF hD hK
                have g71 := get_eqS (hD 5 71 (by simp [Region.binds]) (by kernel_rfl)) s71
                have g73 := get_eqS (hD 7 73 (by simp [Region.binds]) (by kernel_rfl)) s73
                have g75 := get_eqS (hD 9 75 (by simp [Region.binds]) (by kernel_rfl)) s75
                refine ob_yes (wanted_yes rfl (by kernel_rfl) g71) ?_
                clear hF hD
                go_simp
                exact hK _ _ (Below.refl _ _) (rt_eqS s76)
              refine obsR_cons ?_ ?_
              · intro T wx K hB hF hD hK
                have g71 := get_eqS (hD 5 71 (by simp [Region.binds]) (by kernel_rfl)) s71
                have g76 := get_eqS (hD 10 76 (by simp [Region.binds]) (by kernel_rfl)) s76
                refine ob_yes (wanted_none rfl) ?_
                clear hF hD
                go_simp
                exact hK _ _ (Below.refl _ _) (rt_eqS s77)
              refine obsR_cons ?_ ?_
              · intro T wx K hB hF hD hK
                have g77 := get_eqS (hD 11 77 (by simp [Region.binds]) (by kernel_rfl)) s77
                refine ob_yes (wanted_none rfl) ?_
                clear hF hD
                go_simp
                exact hK _ _ (Below.refl _ _) (rt_eqS s78)
              refine obsR_cons ?_ ?_
              · intro T wx K hB hF hD hK
                have g78 := get_eqS (hD 12 78 (by simp [Region.binds]) (by kernel_rfl)) s78
                have g12 : T[12]? = some (.int .i64 j) := hF 12 (freeM_of (by kernel_rfl))
                refine ob_yes (wanted_yes rfl (by kernel_rfl) g78) ?_
                clear hF hD
                go_simp
                exact hK _ _ (Below.refl _ _) (rt_eqS s79)
              refine obsR_cons ?_ ?_
              · intro T wx K hB hF hD hK
                have g78 := get_eqS (hD 12 78 (by simp [Region.binds]) (by kernel_rfl)) s78
                have g79 := get_eqS (hD 13 79 (by simp [Region.binds]) (by kernel_rfl)) s79
                refine ob_yes (wanted_yes rfl (by kernel_rfl) g78) ?_
                clear hF hD
                go_simp
                exact hK _ _ (Below.refl _ _) (rt_eqS' s80 (congrArg Value.bool (by simp [hjn])))
              refine obsR_cons ?_ ?_
              · intro T wx K hB hF hD hK
                have g78 := get_eqS (hD 12 78 (by simp [Region.binds]) (by kernel_rfl)) s78
                have g80 := get_eqS (hD 14 80 (by simp [Region.binds]) (by kernel_rfl)) s80
                refine ob_yes (wanted_yes rfl (by kernel_rfl) g78) ?_
                clear hF hD
                go_simp
                exact hK _ _ (Below.refl _ _) (rt_eqS s81)
              refine obsR_cons ?_ ?_
              · intro T wx K hB hF hD hK
                have g81 := get_eqS (hD 15 81 (by simp [Region.binds]) (by kernel_rfl)) s81
                have g10 : T[10]? = some (.slice (some ⟨b', o', none⟩) N sc) := hF 10 (freeM_of (by kernel_rfl))
                refine ob_yes (wanted_yes rfl (by kernel_rfl) g81) ?_
                clear hF hD
                go_simp
                exact hK _ _ (Below.refl _ _) (rt_eqS s82)
              refine obsR_cons ?_ ?_
              · intro T wx K hB hF hD hK
                have g81 := get_eqS (hD 15 81 (by simp [Region.binds]) (by kernel_rfl)) s81
                have g12 : T[12]? = some (.int .i64 j) := hF 12 (freeM_of (by kernel_rfl))
                refine ob_yes (wanted_yes rfl (by kernel_rfl) g81) ?_
                clear hF hD
                go_simp
                exact hK _ _ (Below.refl _ _) (rt_eqS s83)
              refine obsR_cons ?_ ?_
              · intro T wx K hB hF hD hK
                have g81 := get_eqS (hD 15 81 (by simp [Region.binds]) (by kernel_rfl)) s81
                have g83 := get_eqS (hD 17 83 (by simp [Region.binds]) (by kernel_rfl)) s83
                refine ob_yes (wanted_yes rfl (by kernel_rfl) g81) ?_
                clear hF hD
                go_simp
                exact hK _ _ (Below.refl _ _) (rt_eqS' s84 (congrArg (Value.int .i64) (show IntKind.i64.wrap (jm : Int) = (jm : Int) from wrap_k _ (by omega))))
              refine obsR_cons ?_ ?_
              · intro T wx K hB hF hD hK
                have g81 := get_eqS (hD 15 81 (by simp [Region.binds]) (by kernel_rfl)) s81
                have g82 := get_eqS (hD 16 82 (by simp [Region.binds]) (by kernel_rfl)) s82
                have g84 := get_eqS (hD 18 84 (by simp [Region.binds]) (by kernel_rfl)) s84
                refine ob_yes (wanted_yes rfl (by kernel_rfl) g81) ?_
                clear hF hD
                go_simp
                exact hK _ _ (Below.refl _ _) (rt_eqS s85)
              refine obsR_cons ?_ ?_
              · intro T wx K hB hF hD hK
                have g81 := get_eqS (hD 15 81 (by simp [Region.binds]) (by kernel_rfl)) s81
                have g85 := get_eqS (hD 19 85 (by simp [Region.binds]) (by kernel_rfl)) s85
                refine ob_yes (wanted_yes rfl (by kernel_rfl) g81) ?_
                clear hF hD
                have jc4 := (hB.cell (World.block_lt_of_cell? _ _ c4)).trans c4
                have jc5 := (hB.cell (World.block_lt_of_cell? _ _ c5)).trans c5
                have jc6 := (hB.cell (World.block_lt_of_cell? _ _ c6)).trans c6
                go_simp
                exact hK _ _ (Below.refl _ _) (rt_eqS s86)
              refine obsR_cons ?_ ?_
              · intro T wx K hB hF hD hK
                have g81 := get_eqS (hD 15 81 (by simp [Region.binds]) (by kernel_rfl)) s81
                have g10 : T[10]? = some (.slice (some ⟨b', o', none⟩) N sc) := hF 10 (freeM_of (by kernel_rfl))
                refine ob_yes (wanted_yes rfl (by kernel_rfl) g81) ?_
                clear hF hD
                go_simp
                exact hK _ _ (Below.refl _ _) (rt_eqS s87)
              refine obsR_cons ?_ ?_
              · intro T wx K hB hF hD hK
                have g81 := get_eqS (hD 15 81 (by simp [Region.binds]) (by kernel_rfl)) s81
                have g12 : T[12]? = some (.int .i64 j) := hF 12 (freeM_of (by kernel_rfl))
                refine ob_yes (wanted_yes rfl (by kernel_rfl) g81) ?_
                clear hF hD
                go_simp
                exact hK _ _ (Below.refl _ _) (rt_eqS s88)
              refine obsR_cons ?_ ?_
              · intro T wx K hB hF hD hK
                have g81 := get_eqS (hD 15 81 (by simp [Region.binds]) (by kernel_rfl)) s81
                have g87 := get_eqS (hD 21 87 (by simp [Region.binds]) (by kernel_rfl)) s87
                have g88 := get_eqS (hD 22 88 (by simp [Region.binds]) (by kernel_rfl)) s88
                refine ob_yes (wanted_yes rfl (by kernel_rfl) g81) ?_
                clear hF hD
                go_simp
                exact hK _ _ (Below.refl _ _) (rt_eqS s89)
              refine obsR_cons ?_ ?_
              · intro T wx K hB hF hD hK
                have g81 := get_eqS (hD 15 81 (by simp [Region.binds]) (by kernel_rfl)) s81
                have g89 := get_eqS (hD 23 89 (by simp [Region.binds]) (by kernel_rfl)) s89
                refine ob_yes (wanted_yes rfl (by kernel_rfl) g81) ?_
                clear hF hD
                have jc1 := (hB.cell (World.block_lt_of_cell? _ _ c1)).trans c1
                have jc2 := (hB.cell (World.block_lt_of_cell? _ _ c2)).trans c2
                have jc3 := (hB.cell (World.block_lt_of_cell? _ _ c3)).trans c3
                go_simp
                exact hK _ _ (Below.refl _ _) (rt_eqS s90)
              refine obsR_cons ?_ ?_
              · intro T wx K hB hF hD hK
                have g81 := get_eqS (hD 15 81 (by simp [Region.binds]) (by kernel_rfl)) s81
                have g86 := get_eqS (hD 20 86 (by simp [Region.binds]) (by kernel_rfl)) s86
                have g90 := get_eqS (hD 24 90 (by simp [Region.binds]) (by kernel_rfl)) s90
                refine ob_yes (wanted_yes rfl (by kernel_rfl) g81) ?_
                clear hF hD
                go_simp
                refine (rises_is u v t x y z true _ (Lib.hid (decide_eq_true HL3.out))).mono ?_; rintro e w9 ⟨rfl, hb⟩
                exact hK _ _ hb (rt_eqS s91)
              refine obsR_cons ?_ ?_
              · intro T wx K hB hF hD hK
                have g81 := get_eqS (hD 15 81 (by simp [Region.binds]) (by kernel_rfl)) s81
                have g91 := get_eqS (hD 25 91 (by simp [Region.binds]) (by kernel_rfl)) s91
                refine ob_yes (wanted_yes rfl (by kernel_rfl) g81) ?_
                clear hF hD
                go_simp
                exact hK _ _ (Below.refl _ _) (rt_eqS s92)
              refine obsR_cons ?_ ?_
              · intro T wx K hB hF hD hK
                have g78 := get_eqS (hD 12 78 (by simp [Region.binds]) (by kernel_rfl)) s78
                have g81 := get_eqS (hD 15 81 (by simp [Region.binds]) (by kernel_rfl)) s81
                have g92 := get_eqS (hD 26 92 (by simp [Region.binds]) (by kernel_rfl)) s92
                refine ob_yes (wanted_yes rfl (by kernel_rfl) g78) ?_
                clear hF hD
                go_simp
                exact hK _ _ (Below.refl _ _) (rt_eqS s93)
              refine obsR_cons ?_ ?_
              · intro T wx K hB hF hD hK
                have g78 := get_eqS (hD 12 78 (by simp [Region.binds]) (by kernel_rfl)) s78
                have g93 := get_eqS (hD 27 93 (by simp [Region.binds]) (by kernel_rfl)) s93
                refine ob_yes (wanted_none rfl) ?_
                clear hF hD
                go_simp
                exact hK _ _ (Below.refl _ _) (rt_eqS s94)
              exact obsR_nil
            · intro Tq Wq hb8 hF hs hD
              have g66 := get_eqS (hD 0 66 (by decide) (by kernel_rfl)) s66
              have g67 := get_eqS (hD 1 67 (by decide) (by kernel_rfl)) s67
              have g68 := get_eqS (hD 2 68 (by decide) (by kernel_rfl)) s68
              have g69 := get_eqS (hD 3 69 (by decide) (by kernel_rfl)) s69
              have g70 := get_eqS (hD 4 70 (by decide) (by kernel_rfl)) s70
              have g71 := get_eqS (hD 5 71 (by decide) (by kernel_rfl)) s71
              have g72 := get_eqS (hD 6 72 (by decide) (by kernel_rfl)) s72
              have g73 := get_eqS (hD 7 73 (by decide) (by kernel_rfl)) s73
              have g74 := get_eqS (hD 8 74 (by decide) (by kernel_rfl)) s74
              have g75 := get_eqS (hD 9 75 (by decide) (by kernel_rfl)) s75
              have g76 := get_eqS (hD 10 76 (by decide) (by kernel_rfl)) s76
              have g77 := get_eqS (hD 11 77 (by decide) (by kernel_rfl)) s77
              have g78 := get_eqS (hD 12 78 (by decide) (by kernel_rfl)) s78
              have g79 := get_eqS (hD 13 79 (by decide) (by kernel_rfl)) s79
              have g80 := get_eqS (hD 14 80 (by decide) (by kernel_rfl)) s80
              have g81 := get_eqS (hD 15 81 (by decide) (by kernel_rfl)) s81
              have g82 := get_eqS (hD 16 82 (by decide) (by kernel_rfl)) s82
              have g83 := get_eqS (hD 17 83 (by decide) (by kernel_rfl)) s83
              have g84 := get_eqS (hD 18 84 (by decide) (by kernel_rfl)) s84
              have g85 := get_eqS (hD 19 85 (by decide) (by kernel_rfl)) s85
              have g86 := get_eqS (hD 20 86 (by decide) (by kernel_rfl)) s86
              have g87 := get_eqS (hD 21 87 (by decide) (by kernel_rfl)) s87
              have g88 := get_eqS (hD 22 88 (by decide) (by kernel_rfl)) s88
              have g89 := get_eqS (hD 23 89 (by decide) (by kernel_rfl)) s89
              have g90 := get_eqS (hD 24 90 (by decide) (by kernel_rfl)) s90
              have g91 := get_eqS (hD 25 91 (by decide) (by kernel_rfl)) s91
              have g92 := get_eqS (hD 26 92 (by decide) (by kernel_rfl)) s92
              have g93 := get_eqS (hD 27 93 (by decide) (by kernel_rfl)) s93
              have g94 := get_eqS (hD 28 94 (by decide) (by kernel_rfl)) s94
              have hT9 := conc [(66, .pointer (some ⟨b3x, 6, none⟩)), (67, .agg #[.int .i64 a3, .int .i64 b3]), (68, .pointer (some ⟨bp, 6, none⟩)), (69, .agg #[.int .i64 a3, .int .i64 b3]), (70, .bool false), (71, .bool false), (72, .pointer (some ⟨b4x, 6, none⟩)), (73, .agg #[.int .i64 x3, .int .i64 y3, .int .i64 3]), (74, .pointer (some ⟨bd, 6, none⟩)), (75, .agg #[.int .i64 x3, .int .i64 y3, .int .i64 3]), (76, .bool false), (77, .bool false), (78, .bool false), (79, .int .i64 j), (80, .bool true), (81, .bool true), (82, .slice (some ⟨b', o', none⟩) N sc), (83, .int .i64 j), (84, .int .i64 jm), (85, .pointer (some ⟨b', o' + jm * 3, none⟩)), (86, .agg #[.int .i64 u, .int .i64 v, .int .i64 t]), (87, .slice (some ⟨b', o', none⟩) N sc), (88, .int .i64 j), (89, .pointer (some ⟨b', o' + j * 3, none⟩)), (90, .agg #[.int .i64 x, .int .i64 y, .int .i64 z]), (91, .bool true), (92, .bool false), (93, .bool false), (94, .bool false)] hs hF (by simp only [List.forall_mem_cons]; exact ⟨g66, g67, g68, g69, g70, g71, g72, g73, g74, g75, g76, g77, g78, g79, g80, g81, g82, g83, g84, g85, g86, g87, g88, g89, g90, g91, g92, g93, g94, fun p hp => absurd hp List.not_mem_nil⟩) (by kernel_rfl)
              simp only [List.foldl, List.setIfInBounds_toArray, List.set_cons_succ, List.set_cons_zero] at hT9
              subst hT9
              clear hF hD hs g66 g67 g68 g69 g70 g71 g72 g73 g74 g75 g76 g77 g78 g79 g80 g81 g82 g83 g84 g85 g86 g87 g88 g89 g90 g91 g92 g93 g94 s66 s67 s68 s69 s70 s71 s72 s73 s74 s75 s76 s77 s78 s79 s80 s81 s82 s83 s84 s85 s86 s87 s88 s89 s90 s91 s92 s93 s94
              replace HB := Lib.hid (belT HB.out hb8)
              go_wp2_with fail
              exact ⟨⟨j + 1, by omega, by go_num, HB⟩, by simp [intOf]; omega⟩

set_option maxRecDepth 100000 in
theorem lifted (os : Os) (started : os.Started) (H : Type) (enc : TypeId × Value → H) :
    ReturnsInHanded {} Tryd.checked os 4 .any (fun w args => (Rows.invkinRoundTripSpec.pre enc Tryd.prog Tryd.f4 [] false w args ∧ laidMetH Tryd.prog Rows.invkinRoundTripRow.laid w) ∧ sizedMet enc Tryd.prog Tryd.f4 (OpenSpec.ofChange Rows.invkinRoundTripSpec) false w args)
      (Rows.invkinRoundTripSpec.post enc Tryd.prog Tryd.f4 false true false false) := by
  refine returnsInHanded_of_change_and (C := Tryd.checked) (X := fun w _ => laidMetH Tryd.prog Rows.invkinRoundTripRow.laid w) (fun _ _ _ hh h => h.of_heap hh) own started (by kernel_rfl) Tryd.func4
    (ChangeSpec.witness_shaped (enc := enc) (C := Tryd.checked) (os := os) (X := fun w _ => laidMetH Tryd.prog Rows.invkinRoundTripRow.laid w) false (World.doorLaid Tryd.prog 600 os) #[.agg #[.int .i64 0, .int .i64 0, .int .i64 0, .int .i64 0, .int .i64 0, .int .i64 0, .int .i64 0, .int .i64 0, .int .i64 0, .int .i64 0, .int .i64 0, .int .i64 0], .agg #[.int .u8 0, .int .u8 0, .int .u8 0]] 8 rfl (World.shaped_of_RefB (by kernel_rfl) (by kernel_rfl)) (by kernel_rfl) (by kernel_rfl) (by kernel_rfl) (show laidMetH Tryd.prog [(qn, Rows.laid_ambidexter_rotation_quadrant)] _ from door_met os _)) ?_
  intro W base args ds gs before hval0 hW _ _ hL _
  have hval : ∀ (j : Nat) t v, Tryd.f4.params[j]? = some t → args[j]? = some v → Value.okWide Tryd.prog W .any base t v := hval0
  have hW' := hW
  obtain ⟨p, q, hA0, hV, rfl, hfz, hnd⟩ := hW
  have hA : DataW.TrodAll enc Tryd.prog W 0 (fun _ => true) true Tryd.f4.params.toList args.toList ds p := hA0
  rw [Tryd.params4] at hA hval
  obtain ⟨v0, vs0, d0, ds0, p0, q0, hargs, rfl, rfl, h0, r0⟩ := trodAll_cons hA
  obtain ⟨v1, vs1, d1, ds1, p1, q1, rfl, rfl, rfl, h1, r1⟩ := trodAll_cons r0
  obtain ⟨rfl, rfl, rfl⟩ := trodAll_nil r1
  obtain rfl : args = #[v0, v1] := by cases args; simp_all
  obtain ⟨rfl, rfl⟩ := trodVars_none hV
  have k0 := h0
  have lt0 : ∀ x ∈ p0, x.block < W.heap.size := by obtain ⟨m, hm⟩ := k0; exact DataW.trod_lt m _ _ _ hm
  obtain ⟨c0_0, c0_1, c0_2, c0_3, c0_4, c0_5, c0_6, c0_7, c0_8, c0_9, c0_10, c0_11, rfl⟩ := AFr.open_arm (hval 0 27 v0 rfl rfl) h0
  have k1 := h1
  have lt1 : ∀ x ∈ p1, x.block < W.heap.size := by obtain ⟨m, hm⟩ := k1; exact DataW.trod_lt m _ _ _ hm
  obtain ⟨c1_0, c1_1, c1_2, rfl, b1_0, b1_1, b1_2⟩ := AFr.open_raw (hval 1 30 v1 rfl rfl) h1
  clear hA0 hval0
  simp only [List.append_nil] at hW'
  refine (walk c0_0 c0_1 c0_2 c0_3 c0_4 c0_5 c0_6 c0_7 c0_8 c0_9 c0_10 c0_11 c1_0 c1_1 c1_2 b1_0 b1_1 b1_2 W (tab_of_laid hL)).mono fun e W' ⟨he, bel⟩ => ?_
  subst he
  exact ⟨_, rfl, _, _, _, [], _, [], hW', trodAll_mk1 (shut_bool Tryd.underlying4 _), (trodAll_cons_mk (Below.trod HFr.laidOut (by kernel_rfl) (of_decide_eq_true (by kernel_rfl)) k0 bel lt0) (trodAll_cons_mk (Below.trod HFr.laidOut (by kernel_rfl) (of_decide_eq_true (by kernel_rfl)) k1 bel lt1) trodAll_mk0)), rfl, bel.frame _, fun h => by cases h⟩

theorem holds : Rows.InvkinRoundTripSaid :=
  OpenClaim.holds_of_wide 4 Tryd.f4 rfl rfl rfl rfl rfl rfl rfl ⟨rfl, rfl, rfl, rfl, rfl⟩ rfl rfl rfl rfl rfl (by kernel_rfl) Tryd.func4 (by kernel_rfl)
    (of_decide_eq_true (by kernel_rfl)) (by unfold Func.isWrapper; first | (rw [if_pos (by decide +kernel)]; kernel_rfl) | (rw [if_neg (by decide +kernel)]; exact ⟨rfl, rfl⟩))
    (fun os started H enc _ => lifted os started H enc)

/-- THE STATEMENT: the tied card. -/
theorem card_holds : Rows.InvkinRoundTripCardSaid :=
  Claim7.holds_tied_plain_at .later [] [.data] true Rows.invkinRoundTripCard.stood.harness false
    holds (fun _ h => by cases h) (by kernel_rfl) (fun _ h => by cases h) invkinRoundTrip_row_tie rfl ⟨rfl, rfl⟩ (by kernel_rfl) rfl
    (fun f fn hf hfn => by
      obtain rfl : f = 4 := Option.some.inj ((show Tryd.prog.funcNamed Rows.invkinRoundTripRow.func = some 4 by kernel_rfl).symm.trans hf) |>.symm
      obtain rfl : fn = Tryd.f4 := (Option.some.inj (Tryd.func4.symm.trans hfn)).symm
      exact ⟨by kernel_rfl, fun j t ht => by
        rw [Tryd.params4] at ht
        have hm : t ∈ [27, 30] := by have := Array.mem_of_getElem? ht; simp only [List.mem_toArray, List.mem_cons, List.not_mem_nil, or_false] at this ⊢; grind
        have hall : ([27, 30].all fun u => !Tryd.prog.wantsStandIn u) = true := by kernel_rfl
        exact (show Tryd.prog.wantsStandIn t = false by simpa using List.all_eq_true.1 hall t hm)⟩)
    (by kernel_rfl)
#print axioms card_holds
end Go.Proofs.YtceejjamngplkaaDoor.invkinRoundTrip
