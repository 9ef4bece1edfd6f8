/- Distance is a metric; for every non-empty list, Nearest returns an element, no element is closer to q, and no earlier element is equally close (at most 100 configurations).
Conditions: none on the arguments; the table of rotations lies as the program's text lays it (the card's tie). -/
import Derived.Test.YtceejjamngplkaaDoorIkR
import Derived.Test.YtceejjamngplkaaDoorIkT
import Derived.Test.YtceejjamngplkaaDoorIkU
import Derived.Test.YtceejjamngplkaaDoorBase
import Derived.Test.YtceejjamngplkaaDoorTie
import Derived.Test.YtceejjamngplkaaDoorCards
import Derived.SevenTiedAt
namespace Go.Proofs.YtceejjamngplkaaDoor.invkinNearest
open Go.ChangeShapes Go.WideShapes Go.ChangeAt Go.RowKit
set_option linter.unusedVariables false
set_option linter.unusedSimpArgs false
set_option maxRecDepth 100000

theorem all_b {l : List J3} (h : ∀ j, j < l.length → smB (l.getD j j0) = true) : ∀ x ∈ l, B1000 x := fun x hx => by
  obtain ⟨i, hi, e⟩ := List.getElem_of_mem hx
  have := h i hi
  rw [List.getD_eq_getElem?_getD, List.getElem?_eq_getElem hi] at this
  exact b1000_of (by rw [← e]; exact this)
theorem or_of {l : List J3} {j : Nat} {e : J3} {g : Bool} (h : Hid (g = true ↔ ∃ i, i < j ∧ l.getD i j0 = e)) :
    (Value.bool g = .bool false ∧ Hid (∀ x : Nat, x < j → ¬l[x]?.getD j0 = e)) ∨ (Value.bool g = .bool true ∧ Hid (∃ i, i < j ∧ l[i]?.getD j0 = e)) := by
  have h := h.out
  simp only [List.getD_eq_getElem?_getD] at h
  cases g with
  | false => exact Or.inl ⟨rfl, Lib.hid (fun x hx e => by have := h.2 ⟨x, hx, e⟩; cases this)⟩
  | true => exact Or.inr ⟨rfl, Lib.hid (h.1 rfl)⟩
set_option maxHeartbeats 16000000 in
theorem walk (lo : Option Addr) (lc : Nat) (l : List J3) (hlc : l.length ≤ lc ∧ lc ≤ 9223372036854775807) (a b c d e f u v t : Int) (w : World) (hrow : PRow3 w lo l) (hT : Tab w) :
    Calls Tryd.prog 9 #[.slice lo l.length lc, .agg #[.int .i64 a, .int .i64 b, .int .i64 c], .agg #[.int .i64 d, .int .i64 e, .int .i64 f], .agg #[.int .i64 u, .int .i64 v, .int .i64 t]] w fun e w' => e = .returned (.bool true) ∧ Below w.heap.size w w' := by
  have HRW := Lib.hid hrow
  have HLC := Lib.hid hlc
  clear hrow hlc
  go_enter Tryd.func9, Tryd.ntmps9
  go_upto_region 1 with fail
  obtain ⟨W0, hW0⟩ : ∃ z, (((w.alloc (.cells #[.int .i64 a, .int .i64 b, .int .i64 c] 25)).alloc (.cells #[.int .i64 d, .int .i64 e, .int .i64 f] 25)).alloc (.cells #[.int .i64 u, .int .i64 v, .int .i64 t] 25)) = z := ⟨_, rfl⟩
  have HQ : Hid (W0.heap[w.heap.size]? = some (.cells #[.int .i64 a, .int .i64 b, .int .i64 c] 25 (0, 0))) := Lib.hid (by rw [← hW0]; exact blk_alloc (blk_alloc (blk_new _ _ _ rfl) _) _)
  have HR : Hid (W0.heap[w.heap.size + 1]? = some (.cells #[.int .i64 d, .int .i64 e, .int .i64 f] 25 (0, 0))) := Lib.hid (by rw [← hW0]; exact blk_alloc (blk_new _ _ _ (by simp)) _)
  have HS : Hid (W0.heap[w.heap.size + 1 + 1]? = some (.cells #[.int .i64 u, .int .i64 v, .int .i64 t] 25 (0, 0))) := Lib.hid (by rw [← hW0]; exact blk_new _ _ _ (by simp))
  have B : Hid (Below w.heap.size w W0) := Lib.hid (by rw [← hW0]; go_grown)
  have TT := Lib.hid hT
  rw [hW0]
  clear hW0 hT
  obtain ⟨bq, ebq⟩ : ∃ a, w.heap.size = a := ⟨_, rfl⟩
  obtain ⟨br, ebr⟩ : ∃ a, w.heap.size + 1 = a := ⟨_, rfl⟩
  obtain ⟨bs, ebs⟩ : ∃ a, w.heap.size + 1 + 1 = a := ⟨_, rfl⟩
  have NE := Lib.hid (show w.heap.size ≤ bq ∧ w.heap.size ≤ br ∧ w.heap.size ≤ bs ∧ bq ≠ br ∧ bq ≠ bs ∧ br ≠ bq ∧ br ≠ bs ∧ bs ≠ bq ∧ bs ≠ br by omega)
  rw [ebs, ebr, ebq]
  rw [ebq] at HQ
  rw [ebr] at HR
  rw [ebs] at HS
  clear ebq ebr ebs
  go_upto_region 2 with (go_at_call 10; refine (head8_is _ (Tab.below TT.out B.out)).mono ?_; rintro e W1 ⟨rfl, hb⟩)
  replace HQ := Lib.hid (blk_call HQ.out hb)
  replace HR := Lib.hid (blk_call HR.out hb)
  replace HS := Lib.hid (blk_call HS.out hb)
  replace B := Lib.hid (belT B.out hb)
  clear hb
  obtain ⟨s1, hs1⟩ : ∃ s, smB (a, b, c) = s := ⟨_, rfl⟩
  have S1 := Lib.hid hs1
  clear hs1
  have c_0 := blk_cell HQ.out 0 _ rfl
  have c_1 := blk_cell HQ.out 1 _ rfl
  have c_2 := blk_cell HQ.out 2 _ rfl
  go_upto_region 3 with (go_at_call 18; refine (small_is a b c s1 _ S1).mono ?_; rintro e W3 ⟨rfl, hb⟩)
  clear c_0 c_1 c_2
  replace HQ := Lib.hid (blk_call HQ.out hb)
  replace HR := Lib.hid (blk_call HR.out hb)
  replace HS := Lib.hid (blk_call HS.out hb)
  replace B := Lib.hid (belT B.out hb)
  clear hb
  obtain ⟨s2, hs2⟩ : ∃ s, smB (d, e, f) = s := ⟨_, rfl⟩
  have S2 := Lib.hid hs2
  clear hs2
  have c_0 := blk_cell HR.out 0 _ rfl
  have c_1 := blk_cell HR.out 1 _ rfl
  have c_2 := blk_cell HR.out 2 _ rfl
  go_upto_region 4 with (go_at_call 18; refine (small_is d e f s2 _ S2).mono ?_; rintro e W4 ⟨rfl, hb⟩)
  clear c_0 c_1 c_2
  replace HQ := Lib.hid (blk_call HQ.out hb)
  replace HR := Lib.hid (blk_call HR.out hb)
  replace HS := Lib.hid (blk_call HS.out hb)
  replace B := Lib.hid (belT B.out hb)
  clear hb
  obtain ⟨s3, hs3⟩ : ∃ s, smB (u, v, t) = s := ⟨_, rfl⟩
  have S3 := Lib.hid hs3
  clear hs3
  have c_0 := blk_cell HS.out 0 _ rfl
  have c_1 := blk_cell HS.out 1 _ rfl
  have c_2 := blk_cell HS.out 2 _ rfl
  go_upto_region 5 with (go_at_call 18; refine (small_is u v t s3 _ S3).mono ?_; rintro e W5 ⟨rfl, hb⟩)
  clear c_0 c_1 c_2
  replace HQ := Lib.hid (blk_call HQ.out hb)
  replace HR := Lib.hid (blk_call HR.out hb)
  replace HS := Lib.hid (blk_call HS.out hb)
  replace B := Lib.hid (belT B.out hb)
  clear hb
  cases s1
  · go_wp2_with fail
    go_ret
    exact ⟨rfl, B.out⟩
  cases s2
  · go_wp2_with fail
    go_ret
    exact ⟨rfl, B.out⟩
  cases s3
  · go_wp2_with fail
    go_ret
    exact ⟨rfl, B.out⟩
  by_cases h100 : 100 < l.length
  · have h100' : (100 : Int) < l.length := by omega
    go_wp2_with fail
    go_ret
    exact ⟨rfl, B.out⟩
  have h100' : ¬ (100 : Int) < l.length := by omega
  have BQ := b1000_of S1.out
  have BR := b1000_of S2.out
  have BS := b1000_of S3.out
  clear S1 S2 S3
  obtain ⟨m, hm⟩ : ∃ m, dst3 (a, b, c) (d, e, f) = m := ⟨_, rfl⟩
  have HM := Lib.hid hm
  have HM' := Lib.hid (show dst3 (d, e, f) (a, b, c) = m by rw [dst_comm]; exact hm)
  have m0 : 0 ≤ m := by rw [← hm]; exact dst_nn _ _
  have mz : Hid (m = 0 ↔ (a, b, c) = (d, e, f)) := Lib.hid (by rw [← hm]; exact dst_zero _ _)
  have mt := dst_tri (a, b, c) (d, e, f) (u, v, t)
  rw [hm] at mt
  obtain ⟨m1, hm1⟩ : ∃ m, dst3 (a, b, c) (u, v, t) = m := ⟨_, rfl⟩
  obtain ⟨m2, hm2⟩ : ∃ m, dst3 (u, v, t) (d, e, f) = m := ⟨_, rfl⟩
  rw [hm1, hm2] at mt
  have z1 : 0 ≤ m1 ∧ m1 ≤ 6000 := by rw [← hm1]; unfold dst3; have := ab_bd BQ.1 BS.1; have := ab_bd BQ.2.1 BS.2.1; have := ab_bd BQ.2.2 BS.2.2; simp only at *; omega
  have z2 : 0 ≤ m2 ∧ m2 ≤ 6000 := by rw [← hm2]; unfold dst3; have := ab_bd BS.1 BR.1; have := ab_bd BS.2.1 BR.2.1; have := ab_bd BS.2.2 BR.2.2; simp only at *; omega
  have HM1 := Lib.hid hm1
  have HM2 := Lib.hid hm2
  clear hm hm1 hm2
  have c_0 := blk_cell HQ.out 0 _ rfl
  have c_1 := blk_cell HQ.out 1 _ rfl
  have c_2 := blk_cell HQ.out 2 _ rfl
  have d_0 := blk_cell HR.out 0 _ rfl
  have d_1 := blk_cell HR.out 1 _ rfl
  have d_2 := blk_cell HR.out 2 _ rfl
  go_upto_region 8 with (go_at_call 28; refine (dist_is a b c d e f m _ BQ BR HM).mono ?_; rintro e' W6 ⟨rfl, hb⟩)
  clear c_0 c_1 c_2
  clear d_0 d_1 d_2
  clear h100'
  replace HQ := Lib.hid (blk_call HQ.out hb)
  replace HR := Lib.hid (blk_call HR.out hb)
  replace HS := Lib.hid (blk_call HS.out hb)
  replace B := Lib.hid (belT B.out hb)
  clear hb
  obtain ⟨g, hg⟩ : ∃ g, decide ((a, b, c) = (d, e, f)) = g := ⟨_, rfl⟩
  have EG := eqlJ a b c d e f g (Lib.hid hg)
  have mzg : Hid ((m == 0) = g) := Lib.hid (by rw [← hg, Bool.eq_iff_iff, beq_iff_eq, decide_eq_true_eq]; exact mz.out)
  clear hg
  obtain ⟨sp, hsp⟩ : ∃ sp : ToldS, sp = [none, none, none, none, none, none, none, none, none, none, none, none, none, none, none, none, none, none, none, none, none, none, none, none, none, none, none, none, none, none, none, none, none, none, none, none, none, none, none, none, none, none, none, none, none, none, none, some (eqS (.int .i64 m)), some (eqS (.bool false)), some (eqS (.bool false)), some (eqS (.int .i64 m)), some (eqS (.bool g)), some (eqS (.agg #[.int .i64 a, .int .i64 b, .int .i64 c])), some (eqS (.agg #[.int .i64 d, .int .i64 e, .int .i64 f])), some (eqS (.bool g)), some (eqS (.bool false)), some (eqS (.bool false)), some (eqS (.bool false)), some (eqS (.int .i64 m)), some (eqS (.agg #[.int .i64 d, .int .i64 e, .int .i64 f])), some (eqS (.agg #[.int .i64 a, .int .i64 b, .int .i64 c])), some (eqS (.int .i64 m)), some (eqS (.bool false)), some (eqS (.bool false)), some (eqS (.bool false)), some (eqS (.int .i64 m)), some (eqS (.agg #[.int .i64 a, .int .i64 b, .int .i64 c])), some (eqS (.agg #[.int .i64 u, .int .i64 v, .int .i64 t])), some (eqS (.int .i64 m1)), some (eqS (.agg #[.int .i64 u, .int .i64 v, .int .i64 t])), some (eqS (.agg #[.int .i64 d, .int .i64 e, .int .i64 f])), some (eqS (.int .i64 m2)), some (eqS (.int .i64 (m1 + m2))), some (eqS (.bool false)), some (eqS (.bool false))] := ⟨_, rfl⟩
  have s47 : sp.getD 47 none = some (eqS (.int .i64 m)) := by rw [hsp]; rfl
  have s48 : sp.getD 48 none = some (eqS (.bool false)) := by rw [hsp]; rfl
  have s49 : sp.getD 49 none = some (eqS (.bool false)) := by rw [hsp]; rfl
  have s50 : sp.getD 50 none = some (eqS (.int .i64 m)) := by rw [hsp]; rfl
  have s51 : sp.getD 51 none = some (eqS (.bool g)) := by rw [hsp]; rfl
  have s52 : sp.getD 52 none = some (eqS (.agg #[.int .i64 a, .int .i64 b, .int .i64 c])) := by rw [hsp]; rfl
  have s53 : sp.getD 53 none = some (eqS (.agg #[.int .i64 d, .int .i64 e, .int .i64 f])) := by rw [hsp]; rfl
  have s54 : sp.getD 54 none = some (eqS (.bool g)) := by rw [hsp]; rfl
  have s55 : sp.getD 55 none = some (eqS (.bool false)) := by rw [hsp]; rfl
  have s56 : sp.getD 56 none = some (eqS (.bool false)) := by rw [hsp]; rfl
  have s57 : sp.getD 57 none = some (eqS (.bool false)) := by rw [hsp]; rfl
  have s58 : sp.getD 58 none = some (eqS (.int .i64 m)) := by rw [hsp]; rfl
  have s59 : sp.getD 59 none = some (eqS (.agg #[.int .i64 d, .int .i64 e, .int .i64 f])) := by rw [hsp]; rfl
  have s60 : sp.getD 60 none = some (eqS (.agg #[.int .i64 a, .int .i64 b, .int .i64 c])) := by rw [hsp]; rfl
  have s61 : sp.getD 61 none = some (eqS (.int .i64 m)) := by rw [hsp]; rfl
  have s62 : sp.getD 62 none = some (eqS (.bool false)) := by rw [hsp]; rfl
  have s63 : sp.getD 63 none = some (eqS (.bool false)) := by rw [hsp]; rfl
  have s64 : sp.getD 64 none = some (eqS (.bool false)) := by rw [hsp]; rfl
  have s65 : sp.getD 65 none = some (eqS (.int .i64 m)) := by rw [hsp]; rfl
  have s66 : sp.getD 66 none = some (eqS (.agg #[.int .i64 a, .int .i64 b, .int .i64 c])) := by rw [hsp]; rfl
  have s67 : sp.getD 67 none = some (eqS (.agg #[.int .i64 u, .int .i64 v, .int .i64 t])) := by rw [hsp]; rfl
  have s68 : sp.getD 68 none = some (eqS (.int .i64 m1)) := by rw [hsp]; rfl
  have s69 : sp.getD 69 none = some (eqS (.agg #[.int .i64 u, .int .i64 v, .int .i64 t])) := by rw [hsp]; rfl
  have s70 : sp.getD 70 none = some (eqS (.agg #[.int .i64 d, .int .i64 e, .int .i64 f])) := by rw [hsp]; rfl
  have s71 : sp.getD 71 none = some (eqS (.int .i64 m2)) := by rw [hsp]; rfl
  have s72 : sp.getD 72 none = some (eqS (.int .i64 (m1 + m2))) := by rw [hsp]; rfl
  have s73 : sp.getD 73 none = some (eqS (.bool false)) := by rw [hsp]; rfl
  have s74 : sp.getD 74 none = some (eqS (.bool false)) := by rw [hsp]; rfl
  clear hsp
  refine (wpIn_wide (n := 0)).1 (region_allR (RtS sp) (rtS_keep sp) rfl rfl rfl (by kernel_rfl) (by kernel_rfl) (by kernel_rfl) ?_ ?_)
  · intro Q'
    refine obsR_cons ?_ ?_
    · intro T wx K hB hF hD hK
      have g13 : T[13]? = some (.int .i64 m) := hF 13 (freeM_of (by kernel_rfl))
      refine ob_yes (wanted_none rfl) ?_
      clear hF hD
      go_simp
      exact hK _ _ (Below.refl _ _) (rt_eqS s47)
    refine obsR_cons ?_ ?_
    · intro T wx K hB hF hD hK
      have g47 := get_eqS (hD 0 47 (by simp [Region.binds]) (by kernel_rfl)) s47
      refine ob_yes (wanted_none rfl) ?_
      clear hF hD
      have n0 : ¬ m < 0 := by omega
      go_simp
      exact hK _ _ (Below.refl _ _) (rt_eqS s48)
    refine obsR_cons ?_ ?_
    · intro T wx K hB hF hD hK
      have g48 := get_eqS (hD 1 48 (by simp [Region.binds]) (by kernel_rfl)) s48
      refine ob_yes (wanted_none rfl) ?_
      clear hF hD
      go_simp
      exact hK _ _ (Below.refl _ _) (rt_eqS s49)
    refine obsR_cons ?_ ?_
    · intro T wx K hB hF hD hK
      have g49 := get_eqS (hD 2 49 (by simp [Region.binds]) (by kernel_rfl)) s49
      have g13 : T[13]? = some (.int .i64 m) := hF 13 (freeM_of (by kernel_rfl))
      refine ob_yes (wanted_yes rfl (by kernel_rfl) g49) ?_
      clear hF hD
      go_simp
      exact hK _ _ (Below.refl _ _) (rt_eqS s50)
    refine obsR_cons ?_ ?_
    · intro T wx K hB hF hD hK
      have g49 := get_eqS (hD 2 49 (by simp [Region.binds]) (by kernel_rfl)) s49
      have g50 := get_eqS (hD 3 50 (by simp [Region.binds]) (by kernel_rfl)) s50
      refine ob_yes (wanted_yes rfl (by kernel_rfl) g49) ?_
      clear hF hD
      go_simp
      exact hK _ _ (Below.refl _ _) (rt_eqS' s51 (congrArg Value.bool mzg.out))
    refine obsR_cons ?_ ?_
    · intro T wx K hB hF hD hK
      have g49 := get_eqS (hD 2 49 (by simp [Region.binds]) (by kernel_rfl)) s49
      have g5 : T[5]? = some (.pointer (some ⟨bq, 0, none⟩)) := hF 5 (freeM_of (by kernel_rfl))
      refine ob_yes (wanted_yes rfl (by kernel_rfl) g49) ?_
      clear hF hD
      exact wp_load_row 25 (.tmp 5) rfl _ (eval_tmp g5) _ _ _ _ (blk_call HQ.out hB) Tryd.underlying25 rfl (by kernel_rfl) (hK _ _ (Below.refl _ _) (rt_eqS s52))
    refine obsR_cons ?_ ?_
    · intro T wx K hB hF hD hK
      have g49 := get_eqS (hD 2 49 (by simp [Region.binds]) (by kernel_rfl)) s49
      have g6 : T[6]? = some (.pointer (some ⟨br, 0, none⟩)) := hF 6 (freeM_of (by kernel_rfl))
      refine ob_yes (wanted_yes rfl (by kernel_rfl) g49) ?_
      clear hF hD
      exact wp_load_row 25 (.tmp 6) rfl _ (eval_tmp g6) _ _ _ _ (blk_call HR.out hB) Tryd.underlying25 rfl (by kernel_rfl) (hK _ _ (Below.refl _ _) (rt_eqS s53))
    refine obsR_cons ?_ ?_
    · intro T wx K hB hF hD hK
      have g49 := get_eqS (hD 2 49 (by simp [Region.binds]) (by kernel_rfl)) s49
      have g52 := get_eqS (hD 5 52 (by simp [Region.binds]) (by kernel_rfl)) s52
      have g53 := get_eqS (hD 6 53 (by simp [Region.binds]) (by kernel_rfl)) s53
      refine ob_yes (wanted_yes rfl (by kernel_rfl) g49) ?_
      clear hF hD
      go_simp
      exact hK _ _ (Below.refl _ _) (rt_eqS s54)
    refine obsR_cons ?_ ?_
    · intro T wx K hB hF hD hK
      have g49 := get_eqS (hD 2 49 (by simp [Region.binds]) (by kernel_rfl)) s49
      have g51 := get_eqS (hD 4 51 (by simp [Region.binds]) (by kernel_rfl)) s51
      have g54 := get_eqS (hD 7 54 (by simp [Region.binds]) (by kernel_rfl)) s54
      refine ob_yes (wanted_yes rfl (by kernel_rfl) g49) ?_
      clear hF hD
      cases g
      all_goals
        go_simp
        exact hK _ _ (Below.refl _ _) (rt_eqS s55)
    refine obsR_cons ?_ ?_
    · intro T wx K hB hF hD hK
      have g49 := get_eqS (hD 2 49 (by simp [Region.binds]) (by kernel_rfl)) s49
      have g55 := get_eqS (hD 8 55 (by simp [Region.binds]) (by kernel_rfl)) s55
      refine ob_yes (wanted_none rfl) ?_
      clear hF hD
      go_simp
      exact hK _ _ (Below.refl _ _) (rt_eqS s56)
    refine obsR_cons ?_ ?_
    · intro T wx K hB hF hD hK
      have g56 := get_eqS (hD 9 56 (by simp [Region.binds]) (by kernel_rfl)) s56
      refine ob_yes (wanted_none rfl) ?_
      clear hF hD
      go_simp
      exact hK _ _ (Below.refl _ _) (rt_eqS s57)
    refine obsR_cons ?_ ?_
    · intro T wx K hB hF hD hK
      have g57 := get_eqS (hD 10 57 (by simp [Region.binds]) (by kernel_rfl)) s57
      have g13 : T[13]? = some (.int .i64 m) := hF 13 (freeM_of (by kernel_rfl))
      refine ob_yes (wanted_yes rfl (by kernel_rfl) g57) ?_
      clear hF hD
      go_simp
      exact hK _ _ (Below.refl _ _) (rt_eqS s58)
    refine obsR_cons ?_ ?_
    · intro T wx K hB hF hD hK
      have g57 := get_eqS (hD 10 57 (by simp [Region.binds]) (by kernel_rfl)) s57
      have g6 : T[6]? = some (.pointer (some ⟨br, 0, none⟩)) := hF 6 (freeM_of (by kernel_rfl))
      refine ob_yes (wanted_yes rfl (by kernel_rfl) g57) ?_
      clear hF hD
      exact wp_load_row 25 (.tmp 6) rfl _ (eval_tmp g6) _ _ _ _ (blk_call HR.out hB) Tryd.underlying25 rfl (by kernel_rfl) (hK _ _ (Below.refl _ _) (rt_eqS s59))
    refine obsR_cons ?_ ?_
    · intro T wx K hB hF hD hK
      have g57 := get_eqS (hD 10 57 (by simp [Region.binds]) (by kernel_rfl)) s57
      have g5 : T[5]? = some (.pointer (some ⟨bq, 0, none⟩)) := hF 5 (freeM_of (by kernel_rfl))
      refine ob_yes (wanted_yes rfl (by kernel_rfl) g57) ?_
      clear hF hD
      exact wp_load_row 25 (.tmp 5) rfl _ (eval_tmp g5) _ _ _ _ (blk_call HQ.out hB) Tryd.underlying25 rfl (by kernel_rfl) (hK _ _ (Below.refl _ _) (rt_eqS s60))
    refine obsR_cons ?_ ?_
    · intro T wx K hB hF hD hK
      have g57 := get_eqS (hD 10 57 (by simp [Region.binds]) (by kernel_rfl)) s57
      have g59 := get_eqS (hD 12 59 (by simp [Region.binds]) (by kernel_rfl)) s59
      have g60 := get_eqS (hD 13 60 (by simp [Region.binds]) (by kernel_rfl)) s60
      refine ob_yes (wanted_yes rfl (by kernel_rfl) g57) ?_
      clear hF hD
      go_simp
      refine (dist_is d e f a b c m _ BR BQ HM').mono ?_; rintro e w9 ⟨rfl, hb⟩
      exact hK _ _ hb (rt_eqS s61)
    refine obsR_cons ?_ ?_
    · intro T wx K hB hF hD hK
      have g57 := get_eqS (hD 10 57 (by simp [Region.binds]) (by kernel_rfl)) s57
      have g58 := get_eqS (hD 11 58 (by simp [Region.binds]) (by kernel_rfl)) s58
      have g61 := get_eqS (hD 14 61 (by simp [Region.binds]) (by kernel_rfl)) s61
      refine ob_yes (wanted_yes rfl (by kernel_rfl) g57) ?_
      clear hF hD
      go_simp
      exact hK _ _ (Below.refl _ _) (rt_eqS s62)
    refine obsR_cons ?_ ?_
    · intro T wx K hB hF hD hK
      have g57 := get_eqS (hD 10 57 (by simp [Region.binds]) (by kernel_rfl)) s57
      have g62 := get_eqS (hD 15 62 (by simp [Region.binds]) (by kernel_rfl)) s62
      refine ob_yes (wanted_none rfl) ?_
      clear hF hD
      go_simp
      exact hK _ _ (Below.refl _ _) (rt_eqS s63)
    refine obsR_cons ?_ ?_
    · intro T wx K hB hF hD hK
      have g63 := get_eqS (hD 16 63 (by simp [Region.binds]) (by kernel_rfl)) s63
      refine ob_yes (wanted_none rfl) ?_
      clear hF hD
      go_simp
      exact hK _ _ (Below.refl _ _) (rt_eqS s64)
    refine obsR_cons ?_ ?_
    · intro T wx K hB hF hD hK
      have g64 := get_eqS (hD 17 64 (by simp [Region.binds]) (by kernel_rfl)) s64
      have g13 : T[13]? = some (.int .i64 m) := hF 13 (freeM_of (by kernel_rfl))
      refine ob_yes (wanted_yes rfl (by kernel_rfl) g64) ?_
      clear hF hD
      go_simp
      exact hK _ _ (Below.refl _ _) (rt_eqS s65)
    refine obsR_cons ?_ ?_
    · intro T wx K hB hF hD hK
      have g64 := get_eqS (hD 17 64 (by simp [Region.binds]) (by kernel_rfl)) s64
      have g5 : T[5]? = some (.pointer (some ⟨bq, 0, none⟩)) := hF 5 (freeM_of (by kernel_rfl))
      refine ob_yes (wanted_yes rfl (by kernel_rfl) g64) ?_
      clear hF hD
      exact wp_load_row 25 (.tmp 5) rfl _ (eval_tmp g5) _ _ _ _ (blk_call HQ.out hB) Tryd.underlying25 rfl (by kernel_rfl) (hK _ _ (Below.refl _ _) (rt_eqS s66))
    refine obsR_cons ?_ ?_
    · intro T wx K hB hF hD hK
      have g64 := get_eqS (hD 17 64 (by simp [Region.binds]) (by kernel_rfl)) s64
      have g7 : T[7]? = some (.pointer (some ⟨bs, 0, none⟩)) := hF 7 (freeM_of (by kernel_rfl))
      refine ob_yes (wanted_yes rfl (by kernel_rfl) g64) ?_
      clear hF hD
      exact wp_load_row 25 (.tmp 7) rfl _ (eval_tmp g7) _ _ _ _ (blk_call HS.out hB) Tryd.underlying25 rfl (by kernel_rfl) (hK _ _ (Below.refl _ _) (rt_eqS s67))
    refine obsR_cons ?_ ?_
    · intro T wx K hB hF hD hK
      have g64 := get_eqS (hD 17 64 (by simp [Region.binds]) (by kernel_rfl)) s64
      have g66 := get_eqS (hD 19 66 (by simp [Region.binds]) (by kernel_rfl)) s66
      have g67 := get_eqS (hD 20 67 (by simp [Region.binds]) (by kernel_rfl)) s67
      refine ob_yes (wanted_yes rfl (by kernel_rfl) g64) ?_
      clear hF hD
      go_simp
      refine (dist_is a b c u v t m1 _ BQ BS HM1).mono ?_; rintro e w9 ⟨rfl, hb⟩
      exact hK _ _ hb (rt_eqS s68)
    refine obsR_cons ?_ ?_
    · intro T wx K hB hF hD hK
      have g64 := get_eqS (hD 17 64 (by simp [Region.binds]) (by kernel_rfl)) s64
      have g7 : T[7]? = some (.pointer (some ⟨bs, 0, none⟩)) := hF 7 (freeM_of (by kernel_rfl))
      refine ob_yes (wanted_yes rfl (by kernel_rfl) g64) ?_
      clear hF hD
      exact wp_load_row 25 (.tmp 7) rfl _ (eval_tmp g7) _ _ _ _ (blk_call HS.out hB) Tryd.underlying25 rfl (by kernel_rfl) (hK _ _ (Below.refl _ _) (rt_eqS s69))
    refine obsR_cons ?_ ?_
    · intro T wx K hB hF hD hK
      have g64 := get_eqS (hD 17 64 (by simp [Region.binds]) (by kernel_rfl)) s64
      have g6 : T[6]? = some (.pointer (some ⟨br, 0, none⟩)) := hF 6 (freeM_of (by kernel_rfl))
      refine ob_yes (wanted_yes rfl (by kernel_rfl) g64) ?_
      clear hF hD
      exact wp_load_row 25 (.tmp 6) rfl _ (eval_tmp g6) _ _ _ _ (blk_call HR.out hB) Tryd.underlying25 rfl (by kernel_rfl) (hK _ _ (Below.refl _ _) (rt_eqS s70))
    refine obsR_cons ?_ ?_
    · intro T wx K hB hF hD hK
      have g64 := get_eqS (hD 17 64 (by simp [Region.binds]) (by kernel_rfl)) s64
      have g69 := get_eqS (hD 22 69 (by simp [Region.binds]) (by kernel_rfl)) s69
      have g70 := get_eqS (hD 23 70 (by simp [Region.binds]) (by kernel_rfl)) s70
      refine ob_yes (wanted_yes rfl (by kernel_rfl) g64) ?_
      clear hF hD
      go_simp
      refine (dist_is u v t d e f m2 _ BS BR HM2).mono ?_; rintro e w9 ⟨rfl, hb⟩
      exact hK _ _ hb (rt_eqS s71)
    refine obsR_cons ?_ ?_
    · intro T wx K hB hF hD hK
      have g64 := get_eqS (hD 17 64 (by simp [Region.binds]) (by kernel_rfl)) s64
      have g68 := get_eqS (hD 21 68 (by simp [Region.binds]) (by kernel_rfl)) s68
      have g71 := get_eqS (hD 24 71 (by simp [Region.binds]) (by kernel_rfl)) s71
      refine ob_yes (wanted_yes rfl (by kernel_rfl) g64) ?_
      clear hF hD
      go_simp
      exact hK _ _ (Below.refl _ _) (rt_eqS' s72 (congrArg (Value.int .i64) (wrap_k _ (by omega))))
    refine obsR_cons ?_ ?_
    · intro T wx K hB hF hD hK
      have g64 := get_eqS (hD 17 64 (by simp [Region.binds]) (by kernel_rfl)) s64
      have g65 := get_eqS (hD 18 65 (by simp [Region.binds]) (by kernel_rfl)) s65
      have g72 := get_eqS (hD 25 72 (by simp [Region.binds]) (by kernel_rfl)) s72
      refine ob_yes (wanted_yes rfl (by kernel_rfl) g64) ?_
      clear hF hD
      have n1 : ¬ m1 + m2 < m := by omega
      go_simp
      exact hK _ _ (Below.refl _ _) (rt_eqS s73)
    refine obsR_cons ?_ ?_
    · intro T wx K hB hF hD hK
      have g64 := get_eqS (hD 17 64 (by simp [Region.binds]) (by kernel_rfl)) s64
      have g73 := get_eqS (hD 26 73 (by simp [Region.binds]) (by kernel_rfl)) s73
      refine ob_yes (wanted_none rfl) ?_
      clear hF hD
      go_simp
      exact hK _ _ (Below.refl _ _) (rt_eqS s74)
    exact obsR_nil
  · intro T7 W7 hb8 hF hs hD
    have g47 := get_eqS (hD 0 47 (by decide) (by kernel_rfl)) s47
    have g48 := get_eqS (hD 1 48 (by decide) (by kernel_rfl)) s48
    have g49 := get_eqS (hD 2 49 (by decide) (by kernel_rfl)) s49
    have g50 := get_eqS (hD 3 50 (by decide) (by kernel_rfl)) s50
    have g51 := get_eqS (hD 4 51 (by decide) (by kernel_rfl)) s51
    have g52 := get_eqS (hD 5 52 (by decide) (by kernel_rfl)) s52
    have g53 := get_eqS (hD 6 53 (by decide) (by kernel_rfl)) s53
    have g54 := get_eqS (hD 7 54 (by decide) (by kernel_rfl)) s54
    have g55 := get_eqS (hD 8 55 (by decide) (by kernel_rfl)) s55
    have g56 := get_eqS (hD 9 56 (by decide) (by kernel_rfl)) s56
    have g57 := get_eqS (hD 10 57 (by decide) (by kernel_rfl)) s57
    have g58 := get_eqS (hD 11 58 (by decide) (by kernel_rfl)) s58
    have g59 := get_eqS (hD 12 59 (by decide) (by kernel_rfl)) s59
    have g60 := get_eqS (hD 13 60 (by decide) (by kernel_rfl)) s60
    have g61 := get_eqS (hD 14 61 (by decide) (by kernel_rfl)) s61
    have g62 := get_eqS (hD 15 62 (by decide) (by kernel_rfl)) s62
    have g63 := get_eqS (hD 16 63 (by decide) (by kernel_rfl)) s63
    have g64 := get_eqS (hD 17 64 (by decide) (by kernel_rfl)) s64
    have g65 := get_eqS (hD 18 65 (by decide) (by kernel_rfl)) s65
    have g66 := get_eqS (hD 19 66 (by decide) (by kernel_rfl)) s66
    have g67 := get_eqS (hD 20 67 (by decide) (by kernel_rfl)) s67
    have g68 := get_eqS (hD 21 68 (by decide) (by kernel_rfl)) s68
    have g69 := get_eqS (hD 22 69 (by decide) (by kernel_rfl)) s69
    have g70 := get_eqS (hD 23 70 (by decide) (by kernel_rfl)) s70
    have g71 := get_eqS (hD 24 71 (by decide) (by kernel_rfl)) s71
    have g72 := get_eqS (hD 25 72 (by decide) (by kernel_rfl)) s72
    have g73 := get_eqS (hD 26 73 (by decide) (by kernel_rfl)) s73
    have g74 := get_eqS (hD 27 74 (by decide) (by kernel_rfl)) s74
    have hT9 := conc [(47, .int .i64 m), (48, .bool false), (49, .bool false), (50, .int .i64 m), (51, .bool g), (52, .agg #[.int .i64 a, .int .i64 b, .int .i64 c]), (53, .agg #[.int .i64 d, .int .i64 e, .int .i64 f]), (54, .bool g), (55, .bool false), (56, .bool false), (57, .bool false), (58, .int .i64 m), (59, .agg #[.int .i64 d, .int .i64 e, .int .i64 f]), (60, .agg #[.int .i64 a, .int .i64 b, .int .i64 c]), (61, .int .i64 m), (62, .bool false), (63, .bool false), (64, .bool false), (65, .int .i64 m), (66, .agg #[.int .i64 a, .int .i64 b, .int .i64 c]), (67, .agg #[.int .i64 u, .int .i64 v, .int .i64 t]), (68, .int .i64 m1), (69, .agg #[.int .i64 u, .int .i64 v, .int .i64 t]), (70, .agg #[.int .i64 d, .int .i64 e, .int .i64 f]), (71, .int .i64 m2), (72, .int .i64 (m1 + m2)), (73, .bool false), (74, .bool false)] hs hF (by simp only [List.forall_mem_cons]; exact ⟨g47, g48, g49, g50, g51, g52, g53, g54, g55, g56, g57, g58, g59, g60, g61, g62, g63, g64, g65, g66, g67, g68, g69, g70, g71, g72, g73, g74, fun p hp => absurd hp List.not_mem_nil⟩) (by kernel_rfl)
    simp only [List.foldl, List.setIfInBounds_toArray, List.set_cons_succ, List.set_cons_zero] at hT9
    subst hT9
    clear hF hD hs g47 g48 g49 g50 g51 g52 g53 g54 g55 g56 g57 g58 g59 g60 g61 g62 g63 g64 g65 g66 g67 g68 g69 g70 g71 g72 g73 g74 s47 s48 s49 s50 s51 s52 s53 s54 s55 s56 s57 s58 s59 s60 s61 s62 s63 s64 s65 s66 s67 s68 s69 s70 s71 s72 s73 s74
    replace HQ := Lib.hid (blk_call HQ.out hb8)
    replace HR := Lib.hid (blk_call HR.out hb8)
    replace HS := Lib.hid (blk_call HS.out hb8)
    replace B := Lib.hid (belT B.out hb8)
    clear hb8
    clear EG mzg mz HM HM' HM1 HM2 m0 mt z1 z2 BR BS
    go_wp2_with fail
    go_loopw [14] (fun i wr => ∃ j : Nat, j ≤ l.length ∧ i = .int .i64 j ∧ Hid (∀ i, i < j → smB (l.getD i j0) = true) ∧ Hid (Below W7.heap.size W7 wr)) (fun i _ => l.length - (intOf i).toNat)
    case atStart => exact ⟨0, Nat.zero_le _, rfl, Lib.hid (fun i hi => by omega), Lib.hid (Below.refl _ _)⟩
    case round =>
      obtain ⟨j, hj, rfl, HS1, HB⟩ := hrel
      have B0 := B
      clear B
      have B := Lib.hid (belT B0.out HB.out)
      by_cases hlt : j < l.length
      · obtain ⟨b', o', rfl, c1, c2, c3⟩ := prow3_below HRW.out B.out j hlt
        have hji : (j : Int) < l.length := by omega
        obtain ⟨eq, heq⟩ : ∃ e, l.getD j j0 = e := ⟨_, rfl⟩
        rw [heq] at c1 c2 c3
        have HEQ := Lib.hid heq
        clear heq
        obtain ⟨x, y, z⟩ := eq
        obtain ⟨s', hs'⟩ : ∃ s, smB (x, y, z) = s := ⟨_, rfl⟩
        have S2 := Lib.hid hs'
        clear hs'
        cases s'
        · go_wp2_with (go_at_call 18; refine (small_is x y z _ _ S2).mono ?_; rintro e Wx ⟨rfl, hb⟩)
          go_ret
          exact ⟨rfl, belT B.out hb⟩
        · have HS2 : Hid (∀ i, i < j + 1 → smB (l.getD i j0) = true) := Lib.hid (fun i hi => by
              by_cases e : i = j
              · subst e; rw [HEQ.out]; exact S2.out
              · exact HS1.out i (by omega))
          go_wp2_with (go_at_call 18; refine (small_is x y z _ _ S2).mono ?_; rintro e Wx ⟨rfl, hb⟩)
          exact ⟨⟨j + 1, by omega, by go_num, HS2, Lib.hid (belT HB.out hb)⟩, by simp [intOf]; omega⟩
      have hjl : j = l.length := by omega
      subst hjl
      have HAL : Hid (∀ x ∈ l, B1000 x) := Lib.hid (all_b HS1.out)
      clear HS1 hlt
      have HQr := Lib.hid (blk_call HQ.out HB.out)
      have RW1 := Lib.hid (prow3_below HRW.out B.out)
      clear HB
      obtain ⟨e0, e1, e2, he⟩ : ∃ p q r, nearL (a, b, c) l = (p, q, r) := ⟨_, _, _, rfl⟩
      have HE' := Lib.hid he
      clear he
      have q_0 := blk_cell HQr.out 0 _ rfl
      have q_1 := blk_cell HQr.out 1 _ rfl
      have q_2 := blk_cell HQr.out 2 _ rfl
      go_upto_region 17 with (go_at_call 19; refine (nearest_is lo l.length lc l a b c e0 e1 e2 _ rfl (by omega) HLC.out.1 HLC.out.2 RW1.out HAL BQ HE').mono ?_; rintro e Wy ⟨rfl, hb⟩)
      clear q_0 q_1 q_2
      have HQ2 := Lib.hid (blk_alloc (blk_call HQr.out hb) (.cells #[.int .i64 e0, .int .i64 e1, .int .i64 e2] 25))
      have HX := Lib.hid (blk_new Wy (.cells #[.int .i64 e0, .int .i64 e1, .int .i64 e2] 25) _ rfl)
      have RW2 := Lib.hid (prow3_alloc (prow3_below RW1.out hb) (.cells #[.int .i64 e0, .int .i64 e1, .int .i64 e2] 25))
      have B2 := Lib.hid (belA (belT B.out hb) (.cells #[.int .i64 e0, .int .i64 e1, .int .i64 e2] 25))
      obtain ⟨bx, ebx⟩ : ∃ x, Wy.heap.size = x := ⟨_, rfl⟩
      rw [ebx] at HX ⊢
      clear ebx hb
      generalize Wy.alloc (.cells #[.int .i64 e0, .int .i64 e1, .int .i64 e2] 25) = Wz at *
      clear HRW HQ HR HS RW1 HQr B B0
      by_cases hnil : l = []
      · subst hnil
        go_wp2_with fail
        go_ret
        exact ⟨rfl, B2.out⟩
      have hem : l.isEmpty = false := by cases l with | nil => exact absurd rfl hnil | cons => rfl
      obtain ⟨N1, N2, N3⟩ := near_all (a, b, c) l hnil
      rw [HE'.out] at N1 N2 N3
      have HN1 := Lib.hid N1
      have HN2 := Lib.hid N2
      have HN3 := Lib.hid N3
      clear N1 N2 N3
      obtain ⟨xi, hxi, hxe⟩ := HN3.out
      have BX := Lib.hid (HAL.out _ (getD_mem hxi))
      rw [hxe] at BX
      clear hxe hxi xi
      obtain ⟨mx, hmx⟩ : ∃ m, dst3 (e0, e1, e2) (a, b, c) = m := ⟨_, rfl⟩
      have HMX := Lib.hid hmx
      rw [hmx] at HN1 HN2
      clear hmx
      go_wp2_with fail
      go_loopw [19, 18] (fun i s18 wr => ∃ (j : Nat) (s : Bool), j ≤ l.length ∧ i = .int .i64 j ∧ s18 = .bool s ∧ Hid (s = true ↔ ∃ i, i < j ∧ l.getD i j0 = (e0, e1, e2)) ∧ Hid (Below Wz.heap.size Wz wr)) (fun i _ _ => l.length - (intOf i).toNat)
      case atStart => exact ⟨0, false, Nat.zero_le _, rfl, rfl, Lib.hid (by simp), Lib.hid (Below.refl _ _)⟩
      case round =>
        obtain ⟨j, s, hj, rfl, rfl, HS1, HB⟩ := hrel
        have B3 := Lib.hid (belT B2.out HB.out)
        have HQ3 := Lib.hid (blk_call HQ2.out HB.out)
        have HX3 := Lib.hid (blk_call HX.out HB.out)
        by_cases hlt : j < l.length
        rotate_left
        · obtain rfl : j = l.length := by omega
          have hs : s = true := by rw [HS1.out]; obtain ⟨i, hi, e⟩ := HN3.out; exact ⟨i, hi, e⟩
          subst hs
          go_wp2_with fail
          go_ret
          exact ⟨rfl, B3.out⟩
        obtain ⟨b', o', elo, c1, c2, c3⟩ := prow3_below RW2.out HB.out j hlt
        have hji : (j : Int) < l.length := by omega
        have M1 := Lib.hid (HN1.out j hlt)
        have M2 := Lib.hid (HN2.out j hlt)
        have BE := Lib.hid (HAL.out _ (getD_mem hlt))
        obtain ⟨eq, heq⟩ : ∃ e, l.getD j j0 = e := ⟨_, rfl⟩
        rw [heq] at c1 c2 c3 M1 M2 BE
        have HEQ := Lib.hid heq
        clear heq
        obtain ⟨x, y, z⟩ := eq
        obtain ⟨mf, hmf⟩ : ∃ m, dst3 (x, y, z) (a, b, c) = m := ⟨_, rfl⟩
        have HMF := Lib.hid hmf
        rw [hmf] at M1 M2
        clear hmf
        subst elo
        have m1' := M1.out
        go_upto_region 23 with fail
        obtain ⟨sp, hsp⟩ : ∃ sp : ToldS, sp = [none, none, none, none, none, none, none, none, none, none, none, none, none, none, none, none, none, none, none, none, some (eqS (.int .i64 mf)), none, none, none, none, none, none, none, none, none, none, none, none, none, none, none, none, none, none, none, none, none, none, none, none, none, none, none, none, none, none, none, none, none, none, none, none, none, none, none, none, none, none, none, none, none, none, none, none, none, none, none, none, none, none, none, none, none, none, none, none, none, none, none, none, none, none, none, none, none, none, none, none, none, none, none, none, none, none, none, none, none, none, none, none, none, none, none, none, some (eqS (.slice (some ⟨b', o', none⟩) l.length lc)), some (eqS (.int .i64 j)), some (eqS (.pointer (some ⟨b', o' + j * 3, none⟩))), some (eqS (.agg #[.int .i64 x, .int .i64 y, .int .i64 z])), some (eqS (.agg #[.int .i64 a, .int .i64 b, .int .i64 c])), some (eqS (.int .i64 mf))] := ⟨_, rfl⟩
        have s20 : sp.getD 20 none = some (eqS (.int .i64 mf)) := by rw [hsp]; rfl
        have s109 : sp.getD 109 none = some (eqS (.slice (some ⟨b', o', none⟩) l.length lc)) := by rw [hsp]; rfl
        have s110 : sp.getD 110 none = some (eqS (.int .i64 j)) := by rw [hsp]; rfl
        have s111 : sp.getD 111 none = some (eqS (.pointer (some ⟨b', o' + j * 3, none⟩))) := by rw [hsp]; rfl
        have s112 : sp.getD 112 none = some (eqS (.agg #[.int .i64 x, .int .i64 y, .int .i64 z])) := by rw [hsp]; rfl
        have s113 : sp.getD 113 none = some (eqS (.agg #[.int .i64 a, .int .i64 b, .int .i64 c])) := by rw [hsp]; rfl
        have s114 : sp.getD 114 none = some (eqS (.int .i64 mf)) := by rw [hsp]; rfl
        clear hsp
        refine (wpIn_wide (n := 0)).1 (region_allR (RtS sp) (rtS_keep sp) rfl rfl rfl (by kernel_rfl) (by kernel_rfl) (by kernel_rfl) ?_ ?_)
        · intro Q'
          refine obsR_cons ?_ ?_
          · intro T wx K hB hF hD hK
            have g0 : T[0]? = some (.slice (some ⟨b', o', none⟩) l.length lc) := hF 0 (freeM_of (by kernel_rfl))
            refine ob_yes (wanted_none rfl) ?_
            clear hF hD
            go_simp
            exact hK _ _ (Below.refl _ _) (rt_eqS s109)
          refine obsR_cons ?_ ?_
          · intro T wx K hB hF hD hK
            have g19 : T[19]? = some (.int .i64 j) := hF 19 (freeM_of (by kernel_rfl))
            refine ob_yes (wanted_none rfl) ?_
            clear hF hD
            go_simp
            exact hK _ _ (Below.refl _ _) (rt_eqS s110)
          refine obsR_cons ?_ ?_
          · intro T wx K hB hF hD hK
            have g109 := get_eqS (hD 0 109 (by simp [Region.binds]) (by kernel_rfl)) s109
            have g110 := get_eqS (hD 1 110 (by simp [Region.binds]) (by kernel_rfl)) s110
            refine ob_yes (wanted_none rfl) ?_
            clear hF hD
            go_simp
            exact hK _ _ (Below.refl _ _) (rt_eqS s111)
          refine obsR_cons ?_ ?_
          · intro T wx K hB hF hD hK
            have g111 := get_eqS (hD 2 111 (by simp [Region.binds]) (by kernel_rfl)) s111
            refine ob_yes (wanted_none rfl) ?_
            clear hF hD
            have jc1 := (hB.cell (World.block_lt_of_cell? _ _ c1)).trans c1
            have jc2 := (hB.cell (World.block_lt_of_cell? _ _ c2)).trans c2
            have jc3 := (hB.cell (World.block_lt_of_cell? _ _ c3)).trans c3
            go_simp
            exact hK _ _ (Below.refl _ _) (rt_eqS s112)
          refine obsR_cons ?_ ?_
          · intro T wx K hB hF hD hK
            have g5 : T[5]? = some (.pointer (some ⟨bq, 0, none⟩)) := hF 5 (freeM_of (by kernel_rfl))
            refine ob_yes (wanted_none rfl) ?_
            clear hF hD
            exact wp_load_row 25 (.tmp 5) rfl _ (eval_tmp g5) _ _ _ _ (blk_call HQ3.out hB) Tryd.underlying25 rfl (by kernel_rfl) (hK _ _ (Below.refl _ _) (rt_eqS s113))
          refine obsR_cons ?_ ?_
          · intro T wx K hB hF hD hK
            have g112 := get_eqS (hD 3 112 (by simp [Region.binds]) (by kernel_rfl)) s112
            have g113 := get_eqS (hD 4 113 (by simp [Region.binds]) (by kernel_rfl)) s113
            refine ob_yes (wanted_none rfl) ?_
            clear hF hD
            go_simp
            refine (dist_is x y z a b c mf _ BE.out BQ HMF).mono ?_; rintro e w9 ⟨rfl, hb⟩
            exact hK _ _ hb (rt_eqS s114)
          refine obsR_cons ?_ ?_
          · intro T wx K hB hF hD hK
            have g114 := get_eqS (hD 5 114 (by simp [Region.binds]) (by kernel_rfl)) s114
            refine ob_yes (wanted_none rfl) ?_
            clear hF hD
            go_simp
            exact hK _ _ (Below.refl _ _) (rt_eqS s20)
          exact obsR_nil
        · intro Tf Wf hb8 hF hs hD
          have g109 := get_eqS (hD 0 109 (by decide) (by kernel_rfl)) s109
          have g110 := get_eqS (hD 1 110 (by decide) (by kernel_rfl)) s110
          have g111 := get_eqS (hD 2 111 (by decide) (by kernel_rfl)) s111
          have g112 := get_eqS (hD 3 112 (by decide) (by kernel_rfl)) s112
          have g113 := get_eqS (hD 4 113 (by decide) (by kernel_rfl)) s113
          have g114 := get_eqS (hD 5 114 (by decide) (by kernel_rfl)) s114
          have g20 := get_eqS (hD 6 20 (by decide) (by kernel_rfl)) s20
          have hT9 := conc [(109, .slice (some ⟨b', o', none⟩) l.length lc), (110, .int .i64 j), (111, .pointer (some ⟨b', o' + j * 3, none⟩)), (112, .agg #[.int .i64 x, .int .i64 y, .int .i64 z]), (113, .agg #[.int .i64 a, .int .i64 b, .int .i64 c]), (114, .int .i64 mf), (20, .int .i64 mf)] hs hF (by simp only [List.forall_mem_cons]; exact ⟨g109, g110, g111, g112, g113, g114, g20, fun p hp => absurd hp List.not_mem_nil⟩) (by kernel_rfl)
          simp only [List.foldl, List.setIfInBounds_toArray, List.set_cons_succ, List.set_cons_zero] at hT9
          subst hT9
          clear hF hD hs g109 g110 g111 g112 g113 g114 g20 s20 s109 s110 s111 s112 s113 s114
          replace HQ3 := Lib.hid (blk_call HQ3.out hb8)
          replace HX3 := Lib.hid (blk_call HX3.out hb8)
          replace c1 := (hb8.cell (World.block_lt_of_cell? _ _ c1)).trans c1
          replace c2 := (hb8.cell (World.block_lt_of_cell? _ _ c2)).trans c2
          replace c3 := (hb8.cell (World.block_lt_of_cell? _ _ c3)).trans c3
          replace HB := Lib.hid (belT HB.out hb8)
          replace B3 := Lib.hid (belT B3.out hb8)
          clear hb8
          go_upto_region 24 with fail
          cases s
          rotate_left
          · skip
            obtain ⟨sp, hsp⟩ : ∃ sp : ToldS, sp = [none, none, none, none, none, none, none, none, none, none, none, none, none, none, none, none, none, none, none, none, none, none, none, none, none, none, none, none, none, none, none, none, none, none, none, none, none, none, none, none, none, none, none, none, none, none, none, none, none, none, none, none, none, none, none, none, none, none, none, none, none, none, none, none, none, none, none, none, none, none, none, none, none, none, none, none, none, none, none, none, none, none, none, none, none, none, none, none, none, none, none, none, none, none, none, none, none, none, none, none, none, none, none, none, none, none, none, none, none, none, none, none, none, none, none, some (eqS (.int .i64 mf)), some (eqS (.agg #[.int .i64 e0, .int .i64 e1, .int .i64 e2])), some (eqS (.agg #[.int .i64 a, .int .i64 b, .int .i64 c])), some (eqS (.int .i64 mx)), some (eqS (.bool false)), some (eqS (.bool false)), some (eqS (.bool true)), some (eqS (.bool false)), some (eqS (.bool false)), some (eqS (undef)), some (eqS (undef)), some (eqS (undef)), some (eqS (undef)), some (eqS (undef)), some (eqS (.bool false)), some (eqS (.bool false)), some (eqS (undef)), some (eqS (undef)), some (eqS (undef)), some (eqS (undef)), some (eqS (undef)), some (eqS (undef)), some (eqS (.bool false)), some (eqS (.bool false))] := ⟨_, rfl⟩
            have s115 : sp.getD 115 none = some (eqS (.int .i64 mf)) := by rw [hsp]; rfl
            have s116 : sp.getD 116 none = some (eqS (.agg #[.int .i64 e0, .int .i64 e1, .int .i64 e2])) := by rw [hsp]; rfl
            have s117 : sp.getD 117 none = some (eqS (.agg #[.int .i64 a, .int .i64 b, .int .i64 c])) := by rw [hsp]; rfl
            have s118 : sp.getD 118 none = some (eqS (.int .i64 mx)) := by rw [hsp]; rfl
            have s119 : sp.getD 119 none = some (eqS (.bool false)) := by rw [hsp]; rfl
            have s120 : sp.getD 120 none = some (eqS (.bool false)) := by rw [hsp]; rfl
            have s121 : sp.getD 121 none = some (eqS (.bool true)) := by rw [hsp]; rfl
            have s122 : sp.getD 122 none = some (eqS (.bool false)) := by rw [hsp]; rfl
            have s123 : sp.getD 123 none = some (eqS (.bool false)) := by rw [hsp]; rfl
            have s124 : sp.getD 124 none = some (eqS (undef)) := by rw [hsp]; rfl
            have s125 : sp.getD 125 none = some (eqS (undef)) := by rw [hsp]; rfl
            have s126 : sp.getD 126 none = some (eqS (undef)) := by rw [hsp]; rfl
            have s127 : sp.getD 127 none = some (eqS (undef)) := by rw [hsp]; rfl
            have s128 : sp.getD 128 none = some (eqS (undef)) := by rw [hsp]; rfl
            have s129 : sp.getD 129 none = some (eqS (.bool false)) := by rw [hsp]; rfl
            have s130 : sp.getD 130 none = some (eqS (.bool false)) := by rw [hsp]; rfl
            have s131 : sp.getD 131 none = some (eqS (undef)) := by rw [hsp]; rfl
            have s132 : sp.getD 132 none = some (eqS (undef)) := by rw [hsp]; rfl
            have s133 : sp.getD 133 none = some (eqS (undef)) := by rw [hsp]; rfl
            have s134 : sp.getD 134 none = some (eqS (undef)) := by rw [hsp]; rfl
            have s135 : sp.getD 135 none = some (eqS (undef)) := by rw [hsp]; rfl
            have s136 : sp.getD 136 none = some (eqS (undef)) := by rw [hsp]; rfl
            have s137 : sp.getD 137 none = some (eqS (.bool false)) := by rw [hsp]; rfl
            have s138 : sp.getD 138 none = some (eqS (.bool false)) := by rw [hsp]; rfl
            clear hsp
            refine (wpIn_wide (n := 0)).1 (region_allR (RtS sp) (rtS_keep sp) rfl rfl rfl (by kernel_rfl) (by kernel_rfl) (by kernel_rfl) ?_ ?_)
            · intro Q'
              refine obsR_cons ?_ ?_
              · intro T wx K hB hF hD hK
                have g20 : T[20]? = some (.int .i64 mf) := hF 20 (freeM_of (by kernel_rfl))
                refine ob_yes (wanted_none rfl) ?_
                clear hF hD
                go_simp
                exact hK _ _ (Below.refl _ _) (rt_eqS s115)
              refine obsR_cons ?_ ?_
              · intro T wx K hB hF hD hK
                have g16 : T[16]? = some (.pointer (some ⟨bx, 0, none⟩)) := hF 16 (freeM_of (by kernel_rfl))
                refine ob_yes (wanted_none rfl) ?_
                clear hF hD
                exact wp_load_row 25 (.tmp 16) rfl _ (eval_tmp g16) _ _ _ _ (blk_call HX3.out hB) Tryd.underlying25 rfl (by kernel_rfl) (hK _ _ (Below.refl _ _) (rt_eqS s116))
              refine obsR_cons ?_ ?_
              · intro T wx K hB hF hD hK
                have g5 : T[5]? = some (.pointer (some ⟨bq, 0, none⟩)) := hF 5 (freeM_of (by kernel_rfl))
                refine ob_yes (wanted_none rfl) ?_
                clear hF hD
                exact wp_load_row 25 (.tmp 5) rfl _ (eval_tmp g5) _ _ _ _ (blk_call HQ3.out hB) Tryd.underlying25 rfl (by kernel_rfl) (hK _ _ (Below.refl _ _) (rt_eqS s117))
              refine obsR_cons ?_ ?_
              · intro T wx K hB hF hD hK
                have g116 := get_eqS (hD 1 116 (by simp [Region.binds]) (by kernel_rfl)) s116
                have g117 := get_eqS (hD 2 117 (by simp [Region.binds]) (by kernel_rfl)) s117
                refine ob_yes (wanted_none rfl) ?_
                clear hF hD
                go_simp
                refine (dist_is e0 e1 e2 a b c mx _ BX.out BQ HMX).mono ?_; rintro e w9 ⟨rfl, hb⟩
                exact hK _ _ hb (rt_eqS s118)
              refine obsR_cons ?_ ?_
              · intro T wx K hB hF hD hK
                have g115 := get_eqS (hD 0 115 (by simp [Region.binds]) (by kernel_rfl)) s115
                have g118 := get_eqS (hD 3 118 (by simp [Region.binds]) (by kernel_rfl)) s118
                refine ob_yes (wanted_none rfl) ?_
                clear hF hD
                have nlt : ¬ mf < mx := by omega
                go_simp
                exact hK _ _ (Below.refl _ _) (rt_eqS s119)
              refine obsR_cons ?_ ?_
              · intro T wx K hB hF hD hK
                have g119 := get_eqS (hD 4 119 (by simp [Region.binds]) (by kernel_rfl)) s119
                refine ob_yes (wanted_none rfl) ?_
                clear hF hD
                go_simp
                exact hK _ _ (Below.refl _ _) (rt_eqS s120)
              refine obsR_cons ?_ ?_
              · intro T wx K hB hF hD hK
                have g120 := get_eqS (hD 5 120 (by simp [Region.binds]) (by kernel_rfl)) s120
                have g18 : T[18]? = some (.bool true) := hF 18 (freeM_of (by kernel_rfl))
                refine ob_yes (wanted_yes rfl (by kernel_rfl) g120) ?_
                clear hF hD
                go_simp
                exact hK _ _ (Below.refl _ _) (rt_eqS s121)
              refine obsR_cons ?_ ?_
              · intro T wx K hB hF hD hK
                have g120 := get_eqS (hD 5 120 (by simp [Region.binds]) (by kernel_rfl)) s120
                have g121 := get_eqS (hD 6 121 (by simp [Region.binds]) (by kernel_rfl)) s121
                refine ob_yes (wanted_yes rfl (by kernel_rfl) g120) ?_
                clear hF hD
                go_simp
                exact hK _ _ (Below.refl _ _) (rt_eqS s122)
              refine obsR_cons ?_ ?_
              · intro T wx K hB hF hD hK
                have g120 := get_eqS (hD 5 120 (by simp [Region.binds]) (by kernel_rfl)) s120
                have g122 := get_eqS (hD 7 122 (by simp [Region.binds]) (by kernel_rfl)) s122
                refine ob_yes (wanted_yes rfl (by kernel_rfl) g120) ?_
                clear hF hD
                go_simp
                exact hK _ _ (Below.refl _ _) (rt_eqS s123)
              refine obsR_cons ?_ ?_
              · intro T wx K hB hF hD hK
                have g123 := get_eqS (hD 8 123 (by simp [Region.binds]) (by kernel_rfl)) s123
                refine ob_no (wanted_no rfl (by kernel_rfl) g123 rfl) ?_
                exact hK _ _ (Below.refl _ _) (rt_eqS s124)
              refine obsR_cons ?_ ?_
              · intro T wx K hB hF hD hK
                have g123 := get_eqS (hD 8 123 (by simp [Region.binds]) (by kernel_rfl)) s123
                refine ob_no (wanted_no rfl (by kernel_rfl) g123 rfl) ?_
                exact hK _ _ (Below.refl _ _) (rt_eqS s125)
              refine obsR_cons ?_ ?_
              · intro T wx K hB hF hD hK
                have g123 := get_eqS (hD 8 123 (by simp [Region.binds]) (by kernel_rfl)) s123
                refine ob_no (wanted_no rfl (by kernel_rfl) g123 rfl) ?_
                exact hK _ _ (Below.refl _ _) (rt_eqS s126)
              refine obsR_cons ?_ ?_
              · intro T wx K hB hF hD hK
                have g123 := get_eqS (hD 8 123 (by simp [Region.binds]) (by kernel_rfl)) s123
                refine ob_no (wanted_no rfl (by kernel_rfl) g123 rfl) ?_
                exact hK _ _ (Below.refl _ _) (rt_eqS s127)
              refine obsR_cons ?_ ?_
              · intro T wx K hB hF hD hK
                have g123 := get_eqS (hD 8 123 (by simp [Region.binds]) (by kernel_rfl)) s123
                refine ob_no (wanted_no rfl (by kernel_rfl) g123 rfl) ?_
                exact hK _ _ (Below.refl _ _) (rt_eqS s128)
              refine obsR_cons ?_ ?_
              · intro T wx K hB hF hD hK
                have g120 := get_eqS (hD 5 120 (by simp [Region.binds]) (by kernel_rfl)) s120
                have g123 := get_eqS (hD 8 123 (by simp [Region.binds]) (by kernel_rfl)) s123
                have g128 := get_eqS (hD 13 128 (by simp [Region.binds]) (by kernel_rfl)) s128
                refine ob_yes (wanted_yes rfl (by kernel_rfl) g120) ?_
                clear hF hD
                go_simp
                exact hK _ _ (Below.refl _ _) (rt_eqS s129)
              refine obsR_cons ?_ ?_
              · intro T wx K hB hF hD hK
                have g120 := get_eqS (hD 5 120 (by simp [Region.binds]) (by kernel_rfl)) s120
                have g129 := get_eqS (hD 14 129 (by simp [Region.binds]) (by kernel_rfl)) s129
                refine ob_yes (wanted_yes rfl (by kernel_rfl) g120) ?_
                clear hF hD
                go_simp
                exact hK _ _ (Below.refl _ _) (rt_eqS s130)
              refine obsR_cons ?_ ?_
              · intro T wx K hB hF hD hK
                have g130 := get_eqS (hD 15 130 (by simp [Region.binds]) (by kernel_rfl)) s130
                refine ob_no (wanted_no rfl (by kernel_rfl) g130 rfl) ?_
                exact hK _ _ (Below.refl _ _) (rt_eqS s131)
              refine obsR_cons ?_ ?_
              · intro T wx K hB hF hD hK
                have g130 := get_eqS (hD 15 130 (by simp [Region.binds]) (by kernel_rfl)) s130
                refine ob_no (wanted_no rfl (by kernel_rfl) g130 rfl) ?_
                exact hK _ _ (Below.refl _ _) (rt_eqS s132)
              refine obsR_cons ?_ ?_
              · intro T wx K hB hF hD hK
                have g130 := get_eqS (hD 15 130 (by simp [Region.binds]) (by kernel_rfl)) s130
                refine ob_no (wanted_no rfl (by kernel_rfl) g130 rfl) ?_
                exact hK _ _ (Below.refl _ _) (rt_eqS s133)
              refine obsR_cons ?_ ?_
              · intro T wx K hB hF hD hK
                have g130 := get_eqS (hD 15 130 (by simp [Region.binds]) (by kernel_rfl)) s130
                refine ob_no (wanted_no rfl (by kernel_rfl) g130 rfl) ?_
                exact hK _ _ (Below.refl _ _) (rt_eqS s134)
              refine obsR_cons ?_ ?_
              · intro T wx K hB hF hD hK
                have g130 := get_eqS (hD 15 130 (by simp [Region.binds]) (by kernel_rfl)) s130
                refine ob_no (wanted_no rfl (by kernel_rfl) g130 rfl) ?_
                exact hK _ _ (Below.refl _ _) (rt_eqS s135)
              refine obsR_cons ?_ ?_
              · intro T wx K hB hF hD hK
                have g130 := get_eqS (hD 15 130 (by simp [Region.binds]) (by kernel_rfl)) s130
                refine ob_no (wanted_no rfl (by kernel_rfl) g130 rfl) ?_
                exact hK _ _ (Below.refl _ _) (rt_eqS s136)
              refine obsR_cons ?_ ?_
              · intro T wx K hB hF hD hK
                have g120 := get_eqS (hD 5 120 (by simp [Region.binds]) (by kernel_rfl)) s120
                have g130 := get_eqS (hD 15 130 (by simp [Region.binds]) (by kernel_rfl)) s130
                have g136 := get_eqS (hD 21 136 (by simp [Region.binds]) (by kernel_rfl)) s136
                refine ob_yes (wanted_yes rfl (by kernel_rfl) g120) ?_
                clear hF hD
                go_simp
                exact hK _ _ (Below.refl _ _) (rt_eqS s137)
              refine obsR_cons ?_ ?_
              · intro T wx K hB hF hD hK
                have g120 := get_eqS (hD 5 120 (by simp [Region.binds]) (by kernel_rfl)) s120
                have g137 := get_eqS (hD 22 137 (by simp [Region.binds]) (by kernel_rfl)) s137
                refine ob_yes (wanted_none rfl) ?_
                clear hF hD
                go_simp
                exact hK _ _ (Below.refl _ _) (rt_eqS s138)
              exact obsR_nil
            · intro Tg Wg hb8 hF hs hD
              have g115 := get_eqS (hD 0 115 (by decide) (by kernel_rfl)) s115
              have g116 := get_eqS (hD 1 116 (by decide) (by kernel_rfl)) s116
              have g117 := get_eqS (hD 2 117 (by decide) (by kernel_rfl)) s117
              have g118 := get_eqS (hD 3 118 (by decide) (by kernel_rfl)) s118
              have g119 := get_eqS (hD 4 119 (by decide) (by kernel_rfl)) s119
              have g120 := get_eqS (hD 5 120 (by decide) (by kernel_rfl)) s120
              have g121 := get_eqS (hD 6 121 (by decide) (by kernel_rfl)) s121
              have g122 := get_eqS (hD 7 122 (by decide) (by kernel_rfl)) s122
              have g123 := get_eqS (hD 8 123 (by decide) (by kernel_rfl)) s123
              have g124 := get_eqS (hD 9 124 (by decide) (by kernel_rfl)) s124
              have g125 := get_eqS (hD 10 125 (by decide) (by kernel_rfl)) s125
              have g126 := get_eqS (hD 11 126 (by decide) (by kernel_rfl)) s126
              have g127 := get_eqS (hD 12 127 (by decide) (by kernel_rfl)) s127
              have g128 := get_eqS (hD 13 128 (by decide) (by kernel_rfl)) s128
              have g129 := get_eqS (hD 14 129 (by decide) (by kernel_rfl)) s129
              have g130 := get_eqS (hD 15 130 (by decide) (by kernel_rfl)) s130
              have g131 := get_eqS (hD 16 131 (by decide) (by kernel_rfl)) s131
              have g132 := get_eqS (hD 17 132 (by decide) (by kernel_rfl)) s132
              have g133 := get_eqS (hD 18 133 (by decide) (by kernel_rfl)) s133
              have g134 := get_eqS (hD 19 134 (by decide) (by kernel_rfl)) s134
              have g135 := get_eqS (hD 20 135 (by decide) (by kernel_rfl)) s135
              have g136 := get_eqS (hD 21 136 (by decide) (by kernel_rfl)) s136
              have g137 := get_eqS (hD 22 137 (by decide) (by kernel_rfl)) s137
              have g138 := get_eqS (hD 23 138 (by decide) (by kernel_rfl)) s138
              have hT9 := conc [(115, .int .i64 mf), (116, .agg #[.int .i64 e0, .int .i64 e1, .int .i64 e2]), (117, .agg #[.int .i64 a, .int .i64 b, .int .i64 c]), (118, .int .i64 mx), (119, .bool false), (120, .bool false), (121, .bool true), (122, .bool false), (123, .bool false), (124, undef), (125, undef), (126, undef), (127, undef), (128, undef), (129, .bool false), (130, .bool false), (131, undef), (132, undef), (133, undef), (134, undef), (135, undef), (136, undef), (137, .bool false), (138, .bool false)] hs hF (by simp only [List.forall_mem_cons]; exact ⟨g115, g116, g117, g118, g119, g120, g121, g122, g123, g124, g125, g126, g127, g128, g129, g130, g131, g132, g133, g134, g135, g136, g137, g138, fun p hp => absurd hp List.not_mem_nil⟩) (by kernel_rfl)
              simp only [List.foldl, List.setIfInBounds_toArray, List.set_cons_succ, List.set_cons_zero] at hT9
              subst hT9
              clear hF hD hs g115 g116 g117 g118 g119 g120 g121 g122 g123 g124 g125 g126 g127 g128 g129 g130 g131 g132 g133 g134 g135 g136 g137 g138 s115 s116 s117 s118 s119 s120 s121 s122 s123 s124 s125 s126 s127 s128 s129 s130 s131 s132 s133 s134 s135 s136 s137 s138
              replace HQ3 := Lib.hid (blk_call HQ3.out hb8)
              replace HX3 := Lib.hid (blk_call HX3.out hb8)
              replace c1 := (hb8.cell (World.block_lt_of_cell? _ _ c1)).trans c1
              replace c2 := (hb8.cell (World.block_lt_of_cell? _ _ c2)).trans c2
              replace c3 := (hb8.cell (World.block_lt_of_cell? _ _ c3)).trans c3
              replace HB := Lib.hid (belT HB.out hb8)
              replace B3 := Lib.hid (belT B3.out hb8)
              clear hb8
              go_upto_region 26 with fail
              obtain ⟨sp, hsp⟩ : ∃ sp : ToldS, sp = [none, none, none, none, none, none, none, none, none, none, none, none, none, none, none, none, none, none, none, none, none, none, none, none, none, none, none, none, none, none, none, none, none, none, none, none, none, none, none, none, none, none, none, none, none, none, none, none, none, none, none, none, none, none, none, none, none, none, none, none, none, none, none, none, none, none, none, none, none, none, none, none, none, none, none, none, none, none, none, none, none, none, none, none, none, none, none, none, none, none, none, none, none, none, none, none, none, none, none, none, none, none, none, none, none, none, none, none, none, none, none, none, none, none, none, none, none, none, none, none, none, none, none, none, none, none, none, none, none, none, none, none, none, none, none, none, none, none, none, some (eqS (.bool true)), some (eqS (.bool true)), some (eqS (undef)), some (eqS (undef)), some (eqS (undef)), some (eqS (undef)), some (eqS (undef)), some (eqS (undef)), some (eqS (.bool true))] := ⟨_, rfl⟩
              have s139 : sp.getD 139 none = some (eqS (.bool true)) := by rw [hsp]; rfl
              have s140 : sp.getD 140 none = some (eqS (.bool true)) := by rw [hsp]; rfl
              have s141 : sp.getD 141 none = some (eqS (undef)) := by rw [hsp]; rfl
              have s142 : sp.getD 142 none = some (eqS (undef)) := by rw [hsp]; rfl
              have s143 : sp.getD 143 none = some (eqS (undef)) := by rw [hsp]; rfl
              have s144 : sp.getD 144 none = some (eqS (undef)) := by rw [hsp]; rfl
              have s145 : sp.getD 145 none = some (eqS (undef)) := by rw [hsp]; rfl
              have s146 : sp.getD 146 none = some (eqS (undef)) := by rw [hsp]; rfl
              have s147 : sp.getD 147 none = some (eqS (.bool true)) := by rw [hsp]; rfl
              clear hsp
              refine (wpIn_wide (n := 0)).1 (region_headR (RtS sp) (rtS_keep sp) 9 rfl rfl rfl (by kernel_rfl) (by decide) (by kernel_rfl) (by kernel_rfl) (by kernel_rfl) ?_ ?_)
              · intro Q'; show ObsR _ _ _ _ _ _ _ _ (List.take _ _); simp only [List.take_succ_cons, List.take_zero]
                refine obsR_cons ?_ ?_
                · intro T wx K hB hF hD hK
                  have g18 : T[18]? = some (.bool true) := hF 18 (freeM_of (by kernel_rfl))
                  refine ob_yes (wanted_none rfl) ?_
                  clear hF hD
                  go_simp
                  exact hK _ _ (Below.refl _ _) (rt_eqS s139)
                refine obsR_cons ?_ ?_
                · intro T wx K hB hF hD hK
                  have g139 := get_eqS (hD 0 139 (by simp [Region.binds]) (by kernel_rfl)) s139
                  refine ob_yes (wanted_none rfl) ?_
                  clear hF hD
                  go_simp
                  exact hK _ _ (Below.refl _ _) (rt_eqS s140)
                refine obsR_cons ?_ ?_
                · intro T wx K hB hF hD hK
                  have g140 := get_eqS (hD 1 140 (by simp [Region.binds]) (by kernel_rfl)) s140
                  refine ob_no (wanted_no rfl (by kernel_rfl) g140 rfl) ?_
                  exact hK _ _ (Below.refl _ _) (rt_eqS s141)
                refine obsR_cons ?_ ?_
                · intro T wx K hB hF hD hK
                  have g140 := get_eqS (hD 1 140 (by simp [Region.binds]) (by kernel_rfl)) s140
                  refine ob_no (wanted_no rfl (by kernel_rfl) g140 rfl) ?_
                  exact hK _ _ (Below.refl _ _) (rt_eqS s142)
                refine obsR_cons ?_ ?_
                · intro T wx K hB hF hD hK
                  have g140 := get_eqS (hD 1 140 (by simp [Region.binds]) (by kernel_rfl)) s140
                  refine ob_no (wanted_no rfl (by kernel_rfl) g140 rfl) ?_
                  exact hK _ _ (Below.refl _ _) (rt_eqS s143)
                refine obsR_cons ?_ ?_
                · intro T wx K hB hF hD hK
                  have g140 := get_eqS (hD 1 140 (by simp [Region.binds]) (by kernel_rfl)) s140
                  refine ob_no (wanted_no rfl (by kernel_rfl) g140 rfl) ?_
                  exact hK _ _ (Below.refl _ _) (rt_eqS s144)
                refine obsR_cons ?_ ?_
                · intro T wx K hB hF hD hK
                  have g140 := get_eqS (hD 1 140 (by simp [Region.binds]) (by kernel_rfl)) s140
                  refine ob_no (wanted_no rfl (by kernel_rfl) g140 rfl) ?_
                  exact hK _ _ (Below.refl _ _) (rt_eqS s145)
                refine obsR_cons ?_ ?_
                · intro T wx K hB hF hD hK
                  have g140 := get_eqS (hD 1 140 (by simp [Region.binds]) (by kernel_rfl)) s140
                  refine ob_no (wanted_no rfl (by kernel_rfl) g140 rfl) ?_
                  exact hK _ _ (Below.refl _ _) (rt_eqS s146)
                refine obsR_cons ?_ ?_
                · intro T wx K hB hF hD hK
                  have g140 := get_eqS (hD 1 140 (by simp [Region.binds]) (by kernel_rfl)) s140
                  have g146 := get_eqS (hD 7 146 (by simp [Region.binds]) (by kernel_rfl)) s146
                  refine ob_yes (wanted_none rfl) ?_
                  clear hF hD
                  go_simp
                  exact hK _ _ (Below.refl _ _) (rt_eqS s147)
                exact obsR_nil
              · intro Th w8 hb8 hF hs hD
                have g139 := get_eqS (hD 0 139 (by decide) (by kernel_rfl)) s139
                have g140 := get_eqS (hD 1 140 (by decide) (by kernel_rfl)) s140
                have g141 := get_eqS (hD 2 141 (by decide) (by kernel_rfl)) s141
                have g142 := get_eqS (hD 3 142 (by decide) (by kernel_rfl)) s142
                have g143 := get_eqS (hD 4 143 (by decide) (by kernel_rfl)) s143
                have g144 := get_eqS (hD 5 144 (by decide) (by kernel_rfl)) s144
                have g145 := get_eqS (hD 6 145 (by decide) (by kernel_rfl)) s145
                have g146 := get_eqS (hD 7 146 (by decide) (by kernel_rfl)) s146
                have g147 := get_eqS (hD 8 147 (by decide) (by kernel_rfl)) s147
                have hT9 := conc [(139, .bool true), (140, .bool true), (141, undef), (142, undef), (143, undef), (144, undef), (145, undef), (146, undef), (147, .bool true)] hs hF (by simp only [List.forall_mem_cons]; exact ⟨g139, g140, g141, g142, g143, g144, g145, g146, g147, fun p hp => absurd hp List.not_mem_nil⟩) (by kernel_rfl)
                simp only [List.foldl, List.setIfInBounds_toArray, List.set_cons_succ, List.set_cons_zero] at hT9
                subst hT9
                clear hF hD hs g139 g140 g141 g142 g143 g144 g145 g146 g147 s139 s140 s141 s142 s143 s144 s145 s146 s147
                show wpOpsIn _ _ _ _ _ [9] _ _
                refine tail_one rfl rfl rfl rfl rfl (by intro c e; cases e) ?_
                go_simp
                simp only [wpOpsIn]
                replace HB := Lib.hid (belT HB.out hb8)
                go_wp2_with fail
                have HG4 : Hid (true = true ↔ ∃ i, i < j + 1 ∧ l.getD i j0 = (e0, e1, e2)) := Lib.hid (by simp only [true_iff]; obtain ⟨i, hi, e⟩ := HS1.out.1 (by trivial); exact ⟨i, by omega, e⟩)
                refine ⟨⟨_, .bool true, .int .i64 (j + 1), ⟨j + 1, by omega, by go_num, or_of HG4⟩, rfl, rfl, rfl⟩, by simp [intOf]; omega⟩
          have NOT : Hid (∀ i, i < j → l.getD i j0 ≠ (e0, e1, e2)) := Lib.hid (fun i hi e => by have := HS1.out.2 ⟨i, hi, e⟩; cases this)
          obtain ⟨g3, hg3⟩ : ∃ g, decide ((x, y, z) = (e0, e1, e2)) = g := ⟨_, rfl⟩
          have G3 := Lib.hid hg3
          clear hg3
          have HG3 : Hid (g3 = true ↔ ∃ i, i < j + 1 ∧ l.getD i j0 = (e0, e1, e2)) := Lib.hid (by
              rw [← G3.out, decide_eq_true_eq]
              constructor
              · intro h; exact ⟨j, by omega, by rw [HEQ.out]; exact h⟩
              · rintro ⟨i, hi, e⟩
                by_cases hij : i = j
                · subst hij; rw [HEQ.out] at e; exact e
                · exact absurd e (NOT.out i (by omega)))
          obtain ⟨g2, hg2⟩ : ∃ g, (mf == mx) = g := ⟨_, rfl⟩
          have GG := Lib.hid hg2
          clear hg2
          cases g2
          · skip
            obtain ⟨sp, hsp⟩ : ∃ sp : ToldS, sp = [none, none, none, none, none, none, none, none, none, none, none, none, none, none, none, none, none, none, none, none, none, none, none, none, none, none, none, none, none, none, none, none, none, none, none, none, none, none, none, none, none, none, none, none, none, none, none, none, none, none, none, none, none, none, none, none, none, none, none, none, none, none, none, none, none, none, none, none, none, none, none, none, none, none, none, none, none, none, none, none, none, none, none, none, none, none, none, none, none, none, none, none, none, none, none, none, none, none, none, none, none, none, none, none, none, none, none, none, none, none, none, none, none, none, none, some (eqS (.int .i64 mf)), some (eqS (.agg #[.int .i64 e0, .int .i64 e1, .int .i64 e2])), some (eqS (.agg #[.int .i64 a, .int .i64 b, .int .i64 c])), some (eqS (.int .i64 mx)), some (eqS (.bool false)), some (eqS (.bool false)), some (eqS (.bool false)), some (eqS (.bool true)), some (eqS (.bool true)), some (eqS (.int .i64 mf)), some (eqS (.agg #[.int .i64 e0, .int .i64 e1, .int .i64 e2])), some (eqS (.agg #[.int .i64 a, .int .i64 b, .int .i64 c])), some (eqS (.int .i64 mx)), some (eqS (.bool false)), some (eqS (.bool false)), some (eqS (.bool false)), some (eqS (undef)), some (eqS (undef)), some (eqS (undef)), some (eqS (undef)), some (eqS (undef)), some (eqS (undef)), some (eqS (.bool false)), some (eqS (.bool false))] := ⟨_, rfl⟩
            have s115 : sp.getD 115 none = some (eqS (.int .i64 mf)) := by rw [hsp]; rfl
            have s116 : sp.getD 116 none = some (eqS (.agg #[.int .i64 e0, .int .i64 e1, .int .i64 e2])) := by rw [hsp]; rfl
            have s117 : sp.getD 117 none = some (eqS (.agg #[.int .i64 a, .int .i64 b, .int .i64 c])) := by rw [hsp]; rfl
            have s118 : sp.getD 118 none = some (eqS (.int .i64 mx)) := by rw [hsp]; rfl
            have s119 : sp.getD 119 none = some (eqS (.bool false)) := by rw [hsp]; rfl
            have s120 : sp.getD 120 none = some (eqS (.bool false)) := by rw [hsp]; rfl
            have s121 : sp.getD 121 none = some (eqS (.bool false)) := by rw [hsp]; rfl
            have s122 : sp.getD 122 none = some (eqS (.bool true)) := by rw [hsp]; rfl
            have s123 : sp.getD 123 none = some (eqS (.bool true)) := by rw [hsp]; rfl
            have s124 : sp.getD 124 none = some (eqS (.int .i64 mf)) := by rw [hsp]; rfl
            have s125 : sp.getD 125 none = some (eqS (.agg #[.int .i64 e0, .int .i64 e1, .int .i64 e2])) := by rw [hsp]; rfl
            have s126 : sp.getD 126 none = some (eqS (.agg #[.int .i64 a, .int .i64 b, .int .i64 c])) := by rw [hsp]; rfl
            have s127 : sp.getD 127 none = some (eqS (.int .i64 mx)) := by rw [hsp]; rfl
            have s128 : sp.getD 128 none = some (eqS (.bool false)) := by rw [hsp]; rfl
            have s129 : sp.getD 129 none = some (eqS (.bool false)) := by rw [hsp]; rfl
            have s130 : sp.getD 130 none = some (eqS (.bool false)) := by rw [hsp]; rfl
            have s131 : sp.getD 131 none = some (eqS (undef)) := by rw [hsp]; rfl
            have s132 : sp.getD 132 none = some (eqS (undef)) := by rw [hsp]; rfl
            have s133 : sp.getD 133 none = some (eqS (undef)) := by rw [hsp]; rfl
            have s134 : sp.getD 134 none = some (eqS (undef)) := by rw [hsp]; rfl
            have s135 : sp.getD 135 none = some (eqS (undef)) := by rw [hsp]; rfl
            have s136 : sp.getD 136 none = some (eqS (undef)) := by rw [hsp]; rfl
            have s137 : sp.getD 137 none = some (eqS (.bool false)) := by rw [hsp]; rfl
            have s138 : sp.getD 138 none = some (eqS (.bool false)) := by rw [hsp]; rfl
            clear hsp
            refine (wpIn_wide (n := 0)).1 (region_allR (RtS sp) (rtS_keep sp) rfl rfl rfl (by kernel_rfl) (by kernel_rfl) (by kernel_rfl) ?_ ?_)
            · intro Q'
              refine obsR_cons ?_ ?_
              · intro T wx K hB hF hD hK
                have g20 : T[20]? = some (.int .i64 mf) := hF 20 (freeM_of (by kernel_rfl))
                refine ob_yes (wanted_none rfl) ?_
                clear hF hD
                go_simp
                exact hK _ _ (Below.refl _ _) (rt_eqS s115)
              refine obsR_cons ?_ ?_
              · intro T wx K hB hF hD hK
                have g16 : T[16]? = some (.pointer (some ⟨bx, 0, none⟩)) := hF 16 (freeM_of (by kernel_rfl))
                refine ob_yes (wanted_none rfl) ?_
                clear hF hD
                exact wp_load_row 25 (.tmp 16) rfl _ (eval_tmp g16) _ _ _ _ (blk_call HX3.out hB) Tryd.underlying25 rfl (by kernel_rfl) (hK _ _ (Below.refl _ _) (rt_eqS s116))
              refine obsR_cons ?_ ?_
              · intro T wx K hB hF hD hK
                have g5 : T[5]? = some (.pointer (some ⟨bq, 0, none⟩)) := hF 5 (freeM_of (by kernel_rfl))
                refine ob_yes (wanted_none rfl) ?_
                clear hF hD
                exact wp_load_row 25 (.tmp 5) rfl _ (eval_tmp g5) _ _ _ _ (blk_call HQ3.out hB) Tryd.underlying25 rfl (by kernel_rfl) (hK _ _ (Below.refl _ _) (rt_eqS s117))
              refine obsR_cons ?_ ?_
              · intro T wx K hB hF hD hK
                have g116 := get_eqS (hD 1 116 (by simp [Region.binds]) (by kernel_rfl)) s116
                have g117 := get_eqS (hD 2 117 (by simp [Region.binds]) (by kernel_rfl)) s117
                refine ob_yes (wanted_none rfl) ?_
                clear hF hD
                go_simp
                refine (dist_is e0 e1 e2 a b c mx _ BX.out BQ HMX).mono ?_; rintro e w9 ⟨rfl, hb⟩
                exact hK _ _ hb (rt_eqS s118)
              refine obsR_cons ?_ ?_
              · intro T wx K hB hF hD hK
                have g115 := get_eqS (hD 0 115 (by simp [Region.binds]) (by kernel_rfl)) s115
                have g118 := get_eqS (hD 3 118 (by simp [Region.binds]) (by kernel_rfl)) s118
                refine ob_yes (wanted_none rfl) ?_
                clear hF hD
                have nlt : ¬ mf < mx := by omega
                go_simp
                exact hK _ _ (Below.refl _ _) (rt_eqS s119)
              refine obsR_cons ?_ ?_
              · intro T wx K hB hF hD hK
                have g119 := get_eqS (hD 4 119 (by simp [Region.binds]) (by kernel_rfl)) s119
                refine ob_yes (wanted_none rfl) ?_
                clear hF hD
                go_simp
                exact hK _ _ (Below.refl _ _) (rt_eqS s120)
              refine obsR_cons ?_ ?_
              · intro T wx K hB hF hD hK
                have g120 := get_eqS (hD 5 120 (by simp [Region.binds]) (by kernel_rfl)) s120
                have g18 : T[18]? = some (.bool false) := hF 18 (freeM_of (by kernel_rfl))
                refine ob_yes (wanted_yes rfl (by kernel_rfl) g120) ?_
                clear hF hD
                go_simp
                exact hK _ _ (Below.refl _ _) (rt_eqS s121)
              refine obsR_cons ?_ ?_
              · intro T wx K hB hF hD hK
                have g120 := get_eqS (hD 5 120 (by simp [Region.binds]) (by kernel_rfl)) s120
                have g121 := get_eqS (hD 6 121 (by simp [Region.binds]) (by kernel_rfl)) s121
                refine ob_yes (wanted_yes rfl (by kernel_rfl) g120) ?_
                clear hF hD
                go_simp
                exact hK _ _ (Below.refl _ _) (rt_eqS s122)
              refine obsR_cons ?_ ?_
              · intro T wx K hB hF hD hK
                have g120 := get_eqS (hD 5 120 (by simp [Region.binds]) (by kernel_rfl)) s120
                have g122 := get_eqS (hD 7 122 (by simp [Region.binds]) (by kernel_rfl)) s122
                refine ob_yes (wanted_yes rfl (by kernel_rfl) g120) ?_
                clear hF hD
                go_simp
                exact hK _ _ (Below.refl _ _) (rt_eqS s123)
              refine obsR_cons ?_ ?_
              · intro T wx K hB hF hD hK
                have g123 := get_eqS (hD 8 123 (by simp [Region.binds]) (by kernel_rfl)) s123
                have g20 : T[20]? = some (.int .i64 mf) := hF 20 (freeM_of (by kernel_rfl))
                refine ob_yes (wanted_yes rfl (by kernel_rfl) g123) ?_
                clear hF hD
                go_simp
                exact hK _ _ (Below.refl _ _) (rt_eqS s124)
              refine obsR_cons ?_ ?_
              · intro T wx K hB hF hD hK
                have g123 := get_eqS (hD 8 123 (by simp [Region.binds]) (by kernel_rfl)) s123
                have g16 : T[16]? = some (.pointer (some ⟨bx, 0, none⟩)) := hF 16 (freeM_of (by kernel_rfl))
                refine ob_yes (wanted_yes rfl (by kernel_rfl) g123) ?_
                clear hF hD
                exact wp_load_row 25 (.tmp 16) rfl _ (eval_tmp g16) _ _ _ _ (blk_call HX3.out hB) Tryd.underlying25 rfl (by kernel_rfl) (hK _ _ (Below.refl _ _) (rt_eqS s125))
              refine obsR_cons ?_ ?_
              · intro T wx K hB hF hD hK
                have g123 := get_eqS (hD 8 123 (by simp [Region.binds]) (by kernel_rfl)) s123
                have g5 : T[5]? = some (.pointer (some ⟨bq, 0, none⟩)) := hF 5 (freeM_of (by kernel_rfl))
                refine ob_yes (wanted_yes rfl (by kernel_rfl) g123) ?_
                clear hF hD
                exact wp_load_row 25 (.tmp 5) rfl _ (eval_tmp g5) _ _ _ _ (blk_call HQ3.out hB) Tryd.underlying25 rfl (by kernel_rfl) (hK _ _ (Below.refl _ _) (rt_eqS s126))
              refine obsR_cons ?_ ?_
              · intro T wx K hB hF hD hK
                have g123 := get_eqS (hD 8 123 (by simp [Region.binds]) (by kernel_rfl)) s123
                have g125 := get_eqS (hD 10 125 (by simp [Region.binds]) (by kernel_rfl)) s125
                have g126 := get_eqS (hD 11 126 (by simp [Region.binds]) (by kernel_rfl)) s126
                refine ob_yes (wanted_yes rfl (by kernel_rfl) g123) ?_
                clear hF hD
                go_simp
                refine (dist_is e0 e1 e2 a b c mx _ BX.out BQ HMX).mono ?_; rintro e w9 ⟨rfl, hb⟩
                exact hK _ _ hb (rt_eqS s127)
              refine obsR_cons ?_ ?_
              · intro T wx K hB hF hD hK
                have g123 := get_eqS (hD 8 123 (by simp [Region.binds]) (by kernel_rfl)) s123
                have g124 := get_eqS (hD 9 124 (by simp [Region.binds]) (by kernel_rfl)) s124
                have g127 := get_eqS (hD 12 127 (by simp [Region.binds]) (by kernel_rfl)) s127
                refine ob_yes (wanted_yes rfl (by kernel_rfl) g123) ?_
                clear hF hD
                go_simp
                exact hK _ _ (Below.refl _ _) (rt_eqS' s128 (congrArg Value.bool GG.out))
              refine obsR_cons ?_ ?_
              · intro T wx K hB hF hD hK
                have g120 := get_eqS (hD 5 120 (by simp [Region.binds]) (by kernel_rfl)) s120
                have g123 := get_eqS (hD 8 123 (by simp [Region.binds]) (by kernel_rfl)) s123
                have g128 := get_eqS (hD 13 128 (by simp [Region.binds]) (by kernel_rfl)) s128
                refine ob_yes (wanted_yes rfl (by kernel_rfl) g120) ?_
                clear hF hD
                go_simp
                exact hK _ _ (Below.refl _ _) (rt_eqS s129)
              refine obsR_cons ?_ ?_
              · intro T wx K hB hF hD hK
                have g120 := get_eqS (hD 5 120 (by simp [Region.binds]) (by kernel_rfl)) s120
                have g129 := get_eqS (hD 14 129 (by simp [Region.binds]) (by kernel_rfl)) s129
                refine ob_yes (wanted_yes rfl (by kernel_rfl) g120) ?_
                clear hF hD
                go_simp
                exact hK _ _ (Below.refl _ _) (rt_eqS s130)
              refine obsR_cons ?_ ?_
              · intro T wx K hB hF hD hK
                have g130 := get_eqS (hD 15 130 (by simp [Region.binds]) (by kernel_rfl)) s130
                refine ob_no (wanted_no rfl (by kernel_rfl) g130 rfl) ?_
                exact hK _ _ (Below.refl _ _) (rt_eqS s131)
              refine obsR_cons ?_ ?_
              · intro T wx K hB hF hD hK
                have g130 := get_eqS (hD 15 130 (by simp [Region.binds]) (by kernel_rfl)) s130
                refine ob_no (wanted_no rfl (by kernel_rfl) g130 rfl) ?_
                exact hK _ _ (Below.refl _ _) (rt_eqS s132)
              refine obsR_cons ?_ ?_
              · intro T wx K hB hF hD hK
                have g130 := get_eqS (hD 15 130 (by simp [Region.binds]) (by kernel_rfl)) s130
                refine ob_no (wanted_no rfl (by kernel_rfl) g130 rfl) ?_
                exact hK _ _ (Below.refl _ _) (rt_eqS s133)
              refine obsR_cons ?_ ?_
              · intro T wx K hB hF hD hK
                have g130 := get_eqS (hD 15 130 (by simp [Region.binds]) (by kernel_rfl)) s130
                refine ob_no (wanted_no rfl (by kernel_rfl) g130 rfl) ?_
                exact hK _ _ (Below.refl _ _) (rt_eqS s134)
              refine obsR_cons ?_ ?_
              · intro T wx K hB hF hD hK
                have g130 := get_eqS (hD 15 130 (by simp [Region.binds]) (by kernel_rfl)) s130
                refine ob_no (wanted_no rfl (by kernel_rfl) g130 rfl) ?_
                exact hK _ _ (Below.refl _ _) (rt_eqS s135)
              refine obsR_cons ?_ ?_
              · intro T wx K hB hF hD hK
                have g130 := get_eqS (hD 15 130 (by simp [Region.binds]) (by kernel_rfl)) s130
                refine ob_no (wanted_no rfl (by kernel_rfl) g130 rfl) ?_
                exact hK _ _ (Below.refl _ _) (rt_eqS s136)
              refine obsR_cons ?_ ?_
              · intro T wx K hB hF hD hK
                have g120 := get_eqS (hD 5 120 (by simp [Region.binds]) (by kernel_rfl)) s120
                have g130 := get_eqS (hD 15 130 (by simp [Region.binds]) (by kernel_rfl)) s130
                have g136 := get_eqS (hD 21 136 (by simp [Region.binds]) (by kernel_rfl)) s136
                refine ob_yes (wanted_yes rfl (by kernel_rfl) g120) ?_
                clear hF hD
                go_simp
                exact hK _ _ (Below.refl _ _) (rt_eqS s137)
              refine obsR_cons ?_ ?_
              · intro T wx K hB hF hD hK
                have g120 := get_eqS (hD 5 120 (by simp [Region.binds]) (by kernel_rfl)) s120
                have g137 := get_eqS (hD 22 137 (by simp [Region.binds]) (by kernel_rfl)) s137
                refine ob_yes (wanted_none rfl) ?_
                clear hF hD
                go_simp
                exact hK _ _ (Below.refl _ _) (rt_eqS s138)
              exact obsR_nil
            · intro Tg Wg hb8 hF hs hD
              have g115 := get_eqS (hD 0 115 (by decide) (by kernel_rfl)) s115
              have g116 := get_eqS (hD 1 116 (by decide) (by kernel_rfl)) s116
              have g117 := get_eqS (hD 2 117 (by decide) (by kernel_rfl)) s117
              have g118 := get_eqS (hD 3 118 (by decide) (by kernel_rfl)) s118
              have g119 := get_eqS (hD 4 119 (by decide) (by kernel_rfl)) s119
              have g120 := get_eqS (hD 5 120 (by decide) (by kernel_rfl)) s120
              have g121 := get_eqS (hD 6 121 (by decide) (by kernel_rfl)) s121
              have g122 := get_eqS (hD 7 122 (by decide) (by kernel_rfl)) s122
              have g123 := get_eqS (hD 8 123 (by decide) (by kernel_rfl)) s123
              have g124 := get_eqS (hD 9 124 (by decide) (by kernel_rfl)) s124
              have g125 := get_eqS (hD 10 125 (by decide) (by kernel_rfl)) s125
              have g126 := get_eqS (hD 11 126 (by decide) (by kernel_rfl)) s126
              have g127 := get_eqS (hD 12 127 (by decide) (by kernel_rfl)) s127
              have g128 := get_eqS (hD 13 128 (by decide) (by kernel_rfl)) s128
              have g129 := get_eqS (hD 14 129 (by decide) (by kernel_rfl)) s129
              have g130 := get_eqS (hD 15 130 (by decide) (by kernel_rfl)) s130
              have g131 := get_eqS (hD 16 131 (by decide) (by kernel_rfl)) s131
              have g132 := get_eqS (hD 17 132 (by decide) (by kernel_rfl)) s132
              have g133 := get_eqS (hD 18 133 (by decide) (by kernel_rfl)) s133
              have g134 := get_eqS (hD 19 134 (by decide) (by kernel_rfl)) s134
              have g135 := get_eqS (hD 20 135 (by decide) (by kernel_rfl)) s135
              have g136 := get_eqS (hD 21 136 (by decide) (by kernel_rfl)) s136
              have g137 := get_eqS (hD 22 137 (by decide) (by kernel_rfl)) s137
              have g138 := get_eqS (hD 23 138 (by decide) (by kernel_rfl)) s138
              have hT9 := conc [(115, .int .i64 mf), (116, .agg #[.int .i64 e0, .int .i64 e1, .int .i64 e2]), (117, .agg #[.int .i64 a, .int .i64 b, .int .i64 c]), (118, .int .i64 mx), (119, .bool false), (120, .bool false), (121, .bool false), (122, .bool true), (123, .bool true), (124, .int .i64 mf), (125, .agg #[.int .i64 e0, .int .i64 e1, .int .i64 e2]), (126, .agg #[.int .i64 a, .int .i64 b, .int .i64 c]), (127, .int .i64 mx), (128, .bool false), (129, .bool false), (130, .bool false), (131, undef), (132, undef), (133, undef), (134, undef), (135, undef), (136, undef), (137, .bool false), (138, .bool false)] hs hF (by simp only [List.forall_mem_cons]; exact ⟨g115, g116, g117, g118, g119, g120, g121, g122, g123, g124, g125, g126, g127, g128, g129, g130, g131, g132, g133, g134, g135, g136, g137, g138, fun p hp => absurd hp List.not_mem_nil⟩) (by kernel_rfl)
              simp only [List.foldl, List.setIfInBounds_toArray, List.set_cons_succ, List.set_cons_zero] at hT9
              subst hT9
              clear hF hD hs g115 g116 g117 g118 g119 g120 g121 g122 g123 g124 g125 g126 g127 g128 g129 g130 g131 g132 g133 g134 g135 g136 g137 g138 s115 s116 s117 s118 s119 s120 s121 s122 s123 s124 s125 s126 s127 s128 s129 s130 s131 s132 s133 s134 s135 s136 s137 s138
              replace HQ3 := Lib.hid (blk_call HQ3.out hb8)
              replace HX3 := Lib.hid (blk_call HX3.out hb8)
              replace c1 := (hb8.cell (World.block_lt_of_cell? _ _ c1)).trans c1
              replace c2 := (hb8.cell (World.block_lt_of_cell? _ _ c2)).trans c2
              replace c3 := (hb8.cell (World.block_lt_of_cell? _ _ c3)).trans c3
              replace HB := Lib.hid (belT HB.out hb8)
              replace B3 := Lib.hid (belT B3.out hb8)
              clear hb8
              go_upto_region 26 with fail
              obtain ⟨sp, hsp⟩ : ∃ sp : ToldS, sp = [none, none, none, none, none, none, none, none, none, none, none, none, none, none, none, none, none, none, none, none, none, none, none, none, none, none, none, none, none, none, none, none, none, none, none, none, none, none, none, none, none, none, none, none, none, none, none, none, none, none, none, none, none, none, none, none, none, none, none, none, none, none, none, none, none, none, none, none, none, none, none, none, none, none, none, none, none, none, none, none, none, none, none, none, none, none, none, none, none, none, none, none, none, none, none, none, none, none, none, none, none, none, none, none, none, none, none, none, none, none, none, none, none, none, none, none, none, none, none, none, none, none, none, none, none, none, none, none, none, none, none, none, none, none, none, none, none, none, none, some (eqS (.bool false)), some (eqS (.bool false)), some (eqS (.slice (some ⟨b', o', none⟩) l.length lc)), some (eqS (.int .i64 j)), some (eqS (.pointer (some ⟨b', o' + j * 3, none⟩))), some (eqS (.agg #[.int .i64 x, .int .i64 y, .int .i64 z])), some (eqS (.agg #[.int .i64 e0, .int .i64 e1, .int .i64 e2])), some (eqS (.bool g3)), some (eqS (.bool g3))] := ⟨_, rfl⟩
              have s139 : sp.getD 139 none = some (eqS (.bool false)) := by rw [hsp]; rfl
              have s140 : sp.getD 140 none = some (eqS (.bool false)) := by rw [hsp]; rfl
              have s141 : sp.getD 141 none = some (eqS (.slice (some ⟨b', o', none⟩) l.length lc)) := by rw [hsp]; rfl
              have s142 : sp.getD 142 none = some (eqS (.int .i64 j)) := by rw [hsp]; rfl
              have s143 : sp.getD 143 none = some (eqS (.pointer (some ⟨b', o' + j * 3, none⟩))) := by rw [hsp]; rfl
              have s144 : sp.getD 144 none = some (eqS (.agg #[.int .i64 x, .int .i64 y, .int .i64 z])) := by rw [hsp]; rfl
              have s145 : sp.getD 145 none = some (eqS (.agg #[.int .i64 e0, .int .i64 e1, .int .i64 e2])) := by rw [hsp]; rfl
              have s146 : sp.getD 146 none = some (eqS (.bool g3)) := by rw [hsp]; rfl
              have s147 : sp.getD 147 none = some (eqS (.bool g3)) := by rw [hsp]; rfl
              clear hsp
              refine (wpIn_wide (n := 0)).1 (region_headR (RtS sp) (rtS_keep sp) 9 rfl rfl rfl (by kernel_rfl) (by decide) (by kernel_rfl) (by kernel_rfl) (by kernel_rfl) ?_ ?_)
              · intro Q'; show ObsR _ _ _ _ _ _ _ _ (List.take _ _); simp only [List.take_succ_cons, List.take_zero]
                refine obsR_cons ?_ ?_
                · intro T wx K hB hF hD hK
                  have g18 : T[18]? = some (.bool false) := hF 18 (freeM_of (by kernel_rfl))
                  refine ob_yes (wanted_none rfl) ?_
                  clear hF hD
                  go_simp
                  exact hK _ _ (Below.refl _ _) (rt_eqS s139)
                refine obsR_cons ?_ ?_
                · intro T wx K hB hF hD hK
                  have g139 := get_eqS (hD 0 139 (by simp [Region.binds]) (by kernel_rfl)) s139
                  refine ob_yes (wanted_none rfl) ?_
                  clear hF hD
                  go_simp
                  exact hK _ _ (Below.refl _ _) (rt_eqS s140)
                refine obsR_cons ?_ ?_
                · intro T wx K hB hF hD hK
                  have g140 := get_eqS (hD 1 140 (by simp [Region.binds]) (by kernel_rfl)) s140
                  have g0 : T[0]? = some (.slice (some ⟨b', o', none⟩) l.length lc) := hF 0 (freeM_of (by kernel_rfl))
                  refine ob_yes (wanted_yes rfl (by kernel_rfl) g140) ?_
                  clear hF hD
                  go_simp
                  exact hK _ _ (Below.refl _ _) (rt_eqS s141)
                refine obsR_cons ?_ ?_
                · intro T wx K hB hF hD hK
                  have g140 := get_eqS (hD 1 140 (by simp [Region.binds]) (by kernel_rfl)) s140
                  have g19 : T[19]? = some (.int .i64 j) := hF 19 (freeM_of (by kernel_rfl))
                  refine ob_yes (wanted_yes rfl (by kernel_rfl) g140) ?_
                  clear hF hD
                  go_simp
                  exact hK _ _ (Below.refl _ _) (rt_eqS s142)
                refine obsR_cons ?_ ?_
                · intro T wx K hB hF hD hK
                  have g140 := get_eqS (hD 1 140 (by simp [Region.binds]) (by kernel_rfl)) s140
                  have g141 := get_eqS (hD 2 141 (by simp [Region.binds]) (by kernel_rfl)) s141
                  have g142 := get_eqS (hD 3 142 (by simp [Region.binds]) (by kernel_rfl)) s142
                  refine ob_yes (wanted_yes rfl (by kernel_rfl) g140) ?_
                  clear hF hD
                  go_simp
                  exact hK _ _ (Below.refl _ _) (rt_eqS s143)
                refine obsR_cons ?_ ?_
                · intro T wx K hB hF hD hK
                  have g140 := get_eqS (hD 1 140 (by simp [Region.binds]) (by kernel_rfl)) s140
                  have g143 := get_eqS (hD 4 143 (by simp [Region.binds]) (by kernel_rfl)) s143
                  refine ob_yes (wanted_yes rfl (by kernel_rfl) g140) ?_
                  clear hF hD
                  have jc1 := (hB.cell (World.block_lt_of_cell? _ _ c1)).trans c1
                  have jc2 := (hB.cell (World.block_lt_of_cell? _ _ c2)).trans c2
                  have jc3 := (hB.cell (World.block_lt_of_cell? _ _ c3)).trans c3
                  go_simp
                  exact hK _ _ (Below.refl _ _) (rt_eqS s144)
                refine obsR_cons ?_ ?_
                · intro T wx K hB hF hD hK
                  have g140 := get_eqS (hD 1 140 (by simp [Region.binds]) (by kernel_rfl)) s140
                  have g16 : T[16]? = some (.pointer (some ⟨bx, 0, none⟩)) := hF 16 (freeM_of (by kernel_rfl))
                  refine ob_yes (wanted_yes rfl (by kernel_rfl) g140) ?_
                  clear hF hD
                  exact wp_load_row 25 (.tmp 16) rfl _ (eval_tmp g16) _ _ _ _ (blk_call HX3.out hB) Tryd.underlying25 rfl (by kernel_rfl) (hK _ _ (Below.refl _ _) (rt_eqS s145))
                refine obsR_cons ?_ ?_
                · intro T wx K hB hF hD hK
                  have g140 := get_eqS (hD 1 140 (by simp [Region.binds]) (by kernel_rfl)) s140
                  have g144 := get_eqS (hD 5 144 (by simp [Region.binds]) (by kernel_rfl)) s144
                  have g145 := get_eqS (hD 6 145 (by simp [Region.binds]) (by kernel_rfl)) s145
                  refine ob_yes (wanted_yes rfl (by kernel_rfl) g140) ?_
                  clear hF hD
                  have EN := eqlJ x y z e0 e1 e2 g3 G3
                  go_simp
                  exact hK _ _ (Below.refl _ _) (rt_eqS s146)
                refine obsR_cons ?_ ?_
                · intro T wx K hB hF hD hK
                  have g140 := get_eqS (hD 1 140 (by simp [Region.binds]) (by kernel_rfl)) s140
                  have g146 := get_eqS (hD 7 146 (by simp [Region.binds]) (by kernel_rfl)) s146
                  refine ob_yes (wanted_none rfl) ?_
                  clear hF hD
                  go_simp
                  exact hK _ _ (Below.refl _ _) (rt_eqS s147)
                exact obsR_nil
              · intro Th w8 hb8 hF hs hD
                have g139 := get_eqS (hD 0 139 (by decide) (by kernel_rfl)) s139
                have g140 := get_eqS (hD 1 140 (by decide) (by kernel_rfl)) s140
                have g141 := get_eqS (hD 2 141 (by decide) (by kernel_rfl)) s141
                have g142 := get_eqS (hD 3 142 (by decide) (by kernel_rfl)) s142
                have g143 := get_eqS (hD 4 143 (by decide) (by kernel_rfl)) s143
                have g144 := get_eqS (hD 5 144 (by decide) (by kernel_rfl)) s144
                have g145 := get_eqS (hD 6 145 (by decide) (by kernel_rfl)) s145
                have g146 := get_eqS (hD 7 146 (by decide) (by kernel_rfl)) s146
                have g147 := get_eqS (hD 8 147 (by decide) (by kernel_rfl)) s147
                have hT9 := conc [(139, .bool false), (140, .bool false), (141, .slice (some ⟨b', o', none⟩) l.length lc), (142, .int .i64 j), (143, .pointer (some ⟨b', o' + j * 3, none⟩)), (144, .agg #[.int .i64 x, .int .i64 y, .int .i64 z]), (145, .agg #[.int .i64 e0, .int .i64 e1, .int .i64 e2]), (146, .bool g3), (147, .bool g3)] hs hF (by simp only [List.forall_mem_cons]; exact ⟨g139, g140, g141, g142, g143, g144, g145, g146, g147, fun p hp => absurd hp List.not_mem_nil⟩) (by kernel_rfl)
                simp only [List.foldl, List.setIfInBounds_toArray, List.set_cons_succ, List.set_cons_zero] at hT9
                subst hT9
                clear hF hD hs g139 g140 g141 g142 g143 g144 g145 g146 g147 s139 s140 s141 s142 s143 s144 s145 s146 s147
                show wpOpsIn _ _ _ _ _ [9] _ _
                refine tail_one rfl rfl rfl rfl rfl (by intro c e; cases e) ?_
                go_simp
                simp only [wpOpsIn]
                replace HB := Lib.hid (belT HB.out hb8)
                go_wp2_with fail
                have HG4 := HG3
                refine ⟨⟨_, .bool g3, .int .i64 (j + 1), ⟨j + 1, by omega, by go_num, or_of HG4⟩, rfl, rfl, rfl⟩, by simp [intOf]; omega⟩
          have EQ3 : Hid (decide ((x, y, z) = (e0, e1, e2)) = true) := Lib.hid (decide_eq_true (by
              obtain ⟨i, hi, e⟩ := M2.out (by have := GG.out; simpa using this)
              by_cases hij : i = j
              · subst hij; rw [HEQ.out] at e; exact e
              · exact absurd e (NOT.out i (by omega))))
          obtain ⟨sp, hsp⟩ : ∃ sp : ToldS, sp = [none, none, none, none, none, none, none, none, none, none, none, none, none, none, none, none, none, none, none, none, none, none, none, none, none, none, none, none, none, none, none, none, none, none, none, none, none, none, none, none, none, none, none, none, none, none, none, none, none, none, none, none, none, none, none, none, none, none, none, none, none, none, none, none, none, none, none, none, none, none, none, none, none, none, none, none, none, none, none, none, none, none, none, none, none, none, none, none, none, none, none, none, none, none, none, none, none, none, none, none, none, none, none, none, none, none, none, none, none, none, none, none, none, none, none, some (eqS (.int .i64 mf)), some (eqS (.agg #[.int .i64 e0, .int .i64 e1, .int .i64 e2])), some (eqS (.agg #[.int .i64 a, .int .i64 b, .int .i64 c])), some (eqS (.int .i64 mx)), some (eqS (.bool false)), some (eqS (.bool false)), some (eqS (.bool false)), some (eqS (.bool true)), some (eqS (.bool true)), some (eqS (.int .i64 mf)), some (eqS (.agg #[.int .i64 e0, .int .i64 e1, .int .i64 e2])), some (eqS (.agg #[.int .i64 a, .int .i64 b, .int .i64 c])), some (eqS (.int .i64 mx)), some (eqS (.bool true)), some (eqS (.bool true)), some (eqS (.bool true)), some (eqS (.slice (some ⟨b', o', none⟩) l.length lc)), some (eqS (.int .i64 j)), some (eqS (.pointer (some ⟨b', o' + j * 3, none⟩))), some (eqS (.agg #[.int .i64 x, .int .i64 y, .int .i64 z])), some (eqS (.agg #[.int .i64 e0, .int .i64 e1, .int .i64 e2])), some (eqS (.bool false)), some (eqS (.bool false)), some (eqS (.bool false))] := ⟨_, rfl⟩
          have s115 : sp.getD 115 none = some (eqS (.int .i64 mf)) := by rw [hsp]; rfl
          have s116 : sp.getD 116 none = some (eqS (.agg #[.int .i64 e0, .int .i64 e1, .int .i64 e2])) := by rw [hsp]; rfl
          have s117 : sp.getD 117 none = some (eqS (.agg #[.int .i64 a, .int .i64 b, .int .i64 c])) := by rw [hsp]; rfl
          have s118 : sp.getD 118 none = some (eqS (.int .i64 mx)) := by rw [hsp]; rfl
          have s119 : sp.getD 119 none = some (eqS (.bool false)) := by rw [hsp]; rfl
          have s120 : sp.getD 120 none = some (eqS (.bool false)) := by rw [hsp]; rfl
          have s121 : sp.getD 121 none = some (eqS (.bool false)) := by rw [hsp]; rfl
          have s122 : sp.getD 122 none = some (eqS (.bool true)) := by rw [hsp]; rfl
          have s123 : sp.getD 123 none = some (eqS (.bool true)) := by rw [hsp]; rfl
          have s124 : sp.getD 124 none = some (eqS (.int .i64 mf)) := by rw [hsp]; rfl
          have s125 : sp.getD 125 none = some (eqS (.agg #[.int .i64 e0, .int .i64 e1, .int .i64 e2])) := by rw [hsp]; rfl
          have s126 : sp.getD 126 none = some (eqS (.agg #[.int .i64 a, .int .i64 b, .int .i64 c])) := by rw [hsp]; rfl
          have s127 : sp.getD 127 none = some (eqS (.int .i64 mx)) := by rw [hsp]; rfl
          have s128 : sp.getD 128 none = some (eqS (.bool true)) := by rw [hsp]; rfl
          have s129 : sp.getD 129 none = some (eqS (.bool true)) := by rw [hsp]; rfl
          have s130 : sp.getD 130 none = some (eqS (.bool true)) := by rw [hsp]; rfl
          have s131 : sp.getD 131 none = some (eqS (.slice (some ⟨b', o', none⟩) l.length lc)) := by rw [hsp]; rfl
          have s132 : sp.getD 132 none = some (eqS (.int .i64 j)) := by rw [hsp]; rfl
          have s133 : sp.getD 133 none = some (eqS (.pointer (some ⟨b', o' + j * 3, none⟩))) := by rw [hsp]; rfl
          have s134 : sp.getD 134 none = some (eqS (.agg #[.int .i64 x, .int .i64 y, .int .i64 z])) := by rw [hsp]; rfl
          have s135 : sp.getD 135 none = some (eqS (.agg #[.int .i64 e0, .int .i64 e1, .int .i64 e2])) := by rw [hsp]; rfl
          have s136 : sp.getD 136 none = some (eqS (.bool false)) := by rw [hsp]; rfl
          have s137 : sp.getD 137 none = some (eqS (.bool false)) := by rw [hsp]; rfl
          have s138 : sp.getD 138 none = some (eqS (.bool false)) := by rw [hsp]; rfl
          clear hsp
          refine (wpIn_wide (n := 0)).1 (region_allR (RtS sp) (rtS_keep sp) rfl rfl rfl (by kernel_rfl) (by kernel_rfl) (by kernel_rfl) ?_ ?_)
          · intro Q'
            refine obsR_cons ?_ ?_
            · intro T wx K hB hF hD hK
              have g20 : T[20]? = some (.int .i64 mf) := hF 20 (freeM_of (by kernel_rfl))
              refine ob_yes (wanted_none rfl) ?_
              clear hF hD
              go_simp
              exact hK _ _ (Below.refl _ _) (rt_eqS s115)
            refine obsR_cons ?_ ?_
            · intro T wx K hB hF hD hK
              have g16 : T[16]? = some (.pointer (some ⟨bx, 0, none⟩)) := hF 16 (freeM_of (by kernel_rfl))
              refine ob_yes (wanted_none rfl) ?_
              clear hF hD
              exact wp_load_row 25 (.tmp 16) rfl _ (eval_tmp g16) _ _ _ _ (blk_call HX3.out hB) Tryd.underlying25 rfl (by kernel_rfl) (hK _ _ (Below.refl _ _) (rt_eqS s116))
            refine obsR_cons ?_ ?_
            · intro T wx K hB hF hD hK
              have g5 : T[5]? = some (.pointer (some ⟨bq, 0, none⟩)) := hF 5 (freeM_of (by kernel_rfl))
              refine ob_yes (wanted_none rfl) ?_
              clear hF hD
              exact wp_load_row 25 (.tmp 5) rfl _ (eval_tmp g5) _ _ _ _ (blk_call HQ3.out hB) Tryd.underlying25 rfl (by kernel_rfl) (hK _ _ (Below.refl _ _) (rt_eqS s117))
            refine obsR_cons ?_ ?_
            · intro T wx K hB hF hD hK
              have g116 := get_eqS (hD 1 116 (by simp [Region.binds]) (by kernel_rfl)) s116
              have g117 := get_eqS (hD 2 117 (by simp [Region.binds]) (by kernel_rfl)) s117
              refine ob_yes (wanted_none rfl) ?_
              clear hF hD
              go_simp
              refine (dist_is e0 e1 e2 a b c mx _ BX.out BQ HMX).mono ?_; rintro e w9 ⟨rfl, hb⟩
              exact hK _ _ hb (rt_eqS s118)
            refine obsR_cons ?_ ?_
            · intro T wx K hB hF hD hK
              have g115 := get_eqS (hD 0 115 (by simp [Region.binds]) (by kernel_rfl)) s115
              have g118 := get_eqS (hD 3 118 (by simp [Region.binds]) (by kernel_rfl)) s118
              refine ob_yes (wanted_none rfl) ?_
              clear hF hD
              have nlt : ¬ mf < mx := by omega
              go_simp
              exact hK _ _ (Below.refl _ _) (rt_eqS s119)
            refine obsR_cons ?_ ?_
            · intro T wx K hB hF hD hK
              have g119 := get_eqS (hD 4 119 (by simp [Region.binds]) (by kernel_rfl)) s119
              refine ob_yes (wanted_none rfl) ?_
              clear hF hD
              go_simp
              exact hK _ _ (Below.refl _ _) (rt_eqS s120)
            refine obsR_cons ?_ ?_
            · intro T wx K hB hF hD hK
              have g120 := get_eqS (hD 5 120 (by simp [Region.binds]) (by kernel_rfl)) s120
              have g18 : T[18]? = some (.bool false) := hF 18 (freeM_of (by kernel_rfl))
              refine ob_yes (wanted_yes rfl (by kernel_rfl) g120) ?_
              clear hF hD
              go_simp
              exact hK _ _ (Below.refl _ _) (rt_eqS s121)
            refine obsR_cons ?_ ?_
            · intro T wx K hB hF hD hK
              have g120 := get_eqS (hD 5 120 (by simp [Region.binds]) (by kernel_rfl)) s120
              have g121 := get_eqS (hD 6 121 (by simp [Region.binds]) (by kernel_rfl)) s121
              refine ob_yes (wanted_yes rfl (by kernel_rfl) g120) ?_
              clear hF hD
              go_simp
              exact hK _ _ (Below.refl _ _) (rt_eqS s122)
            refine obsR_cons ?_ ?_
            · intro T wx K hB hF hD hK
              have g120 := get_eqS (hD 5 120 (by simp [Region.binds]) (by kernel_rfl)) s120
              have g122 := get_eqS (hD 7 122 (by simp [Region.binds]) (by kernel_rfl)) s122
              refine ob_yes (wanted_yes rfl (by kernel_rfl) g120) ?_
              clear hF hD
              go_simp
              exact hK _ _ (Below.refl _ _) (rt_eqS s123)
            refine obsR_cons ?_ ?_
            · intro T wx K hB hF hD hK
              have g123 := get_eqS (hD 8 123 (by simp [Region.binds]) (by kernel_rfl)) s123
              have g20 : T[20]? = some (.int .i64 mf) := hF 20 (freeM_of (by kernel_rfl))
              refine ob_yes (wanted_yes rfl (by kernel_rfl) g123) ?_
              clear hF hD
              go_simp
              exact hK _ _ (Below.refl _ _) (rt_eqS s124)
            refine obsR_cons ?_ ?_
            · intro T wx K hB hF hD hK
              have g123 := get_eqS (hD 8 123 (by simp [Region.binds]) (by kernel_rfl)) s123
              have g16 : T[16]? = some (.pointer (some ⟨bx, 0, none⟩)) := hF 16 (freeM_of (by kernel_rfl))
              refine ob_yes (wanted_yes rfl (by kernel_rfl) g123) ?_
              clear hF hD
              exact wp_load_row 25 (.tmp 16) rfl _ (eval_tmp g16) _ _ _ _ (blk_call HX3.out hB) Tryd.underlying25 rfl (by kernel_rfl) (hK _ _ (Below.refl _ _) (rt_eqS s125))
            refine obsR_cons ?_ ?_
            · intro T wx K hB hF hD hK
              have g123 := get_eqS (hD 8 123 (by simp [Region.binds]) (by kernel_rfl)) s123
              have g5 : T[5]? = some (.pointer (some ⟨bq, 0, none⟩)) := hF 5 (freeM_of (by kernel_rfl))
              refine ob_yes (wanted_yes rfl (by kernel_rfl) g123) ?_
              clear hF hD
              exact wp_load_row 25 (.tmp 5) rfl _ (eval_tmp g5) _ _ _ _ (blk_call HQ3.out hB) Tryd.underlying25 rfl (by kernel_rfl) (hK _ _ (Below.refl _ _) (rt_eqS s126))
            refine obsR_cons ?_ ?_
            · intro T wx K hB hF hD hK
              have g123 := get_eqS (hD 8 123 (by simp [Region.binds]) (by kernel_rfl)) s123
              have g125 := get_eqS (hD 10 125 (by simp [Region.binds]) (by kernel_rfl)) s125
              have g126 := get_eqS (hD 11 126 (by simp [Region.binds]) (by kernel_rfl)) s126
              refine ob_yes (wanted_yes rfl (by kernel_rfl) g123) ?_
              clear hF hD
              go_simp
              refine (dist_is e0 e1 e2 a b c mx _ BX.out BQ HMX).mono ?_; rintro e w9 ⟨rfl, hb⟩
              exact hK _ _ hb (rt_eqS s127)
            refine obsR_cons ?_ ?_
            · intro T wx K hB hF hD hK
              have g123 := get_eqS (hD 8 123 (by simp [Region.binds]) (by kernel_rfl)) s123
              have g124 := get_eqS (hD 9 124 (by simp [Region.binds]) (by kernel_rfl)) s124
              have g127 := get_eqS (hD 12 127 (by simp [Region.binds]) (by kernel_rfl)) s127
              refine ob_yes (wanted_yes rfl (by kernel_rfl) g123) ?_
              clear hF hD
              go_simp
              exact hK _ _ (Below.refl _ _) (rt_eqS' s128 (congrArg Value.bool GG.out))
            refine obsR_cons ?_ ?_
            · intro T wx K hB hF hD hK
              have g120 := get_eqS (hD 5 120 (by simp [Region.binds]) (by kernel_rfl)) s120
              have g123 := get_eqS (hD 8 123 (by simp [Region.binds]) (by kernel_rfl)) s123
              have g128 := get_eqS (hD 13 128 (by simp [Region.binds]) (by kernel_rfl)) s128
              refine ob_yes (wanted_yes rfl (by kernel_rfl) g120) ?_
              clear hF hD
              go_simp
              exact hK _ _ (Below.refl _ _) (rt_eqS s129)
            refine obsR_cons ?_ ?_
            · intro T wx K hB hF hD hK
              have g120 := get_eqS (hD 5 120 (by simp [Region.binds]) (by kernel_rfl)) s120
              have g129 := get_eqS (hD 14 129 (by simp [Region.binds]) (by kernel_rfl)) s129
              refine ob_yes (wanted_yes rfl (by kernel_rfl) g120) ?_
              clear hF hD
              go_simp
              exact hK _ _ (Below.refl _ _) (rt_eqS s130)
            refine obsR_cons ?_ ?_
            · intro T wx K hB hF hD hK
              have g130 := get_eqS (hD 15 130 (by simp [Region.binds]) (by kernel_rfl)) s130
              have g0 : T[0]? = some (.slice (some ⟨b', o', none⟩) l.length lc) := hF 0 (freeM_of (by kernel_rfl))
              refine ob_yes (wanted_yes rfl (by kernel_rfl) g130) ?_
              clear hF hD
              go_simp
              exact hK _ _ (Below.refl _ _) (rt_eqS s131)
            refine obsR_cons ?_ ?_
            · intro T wx K hB hF hD hK
              have g130 := get_eqS (hD 15 130 (by simp [Region.binds]) (by kernel_rfl)) s130
              have g19 : T[19]? = some (.int .i64 j) := hF 19 (freeM_of (by kernel_rfl))
              refine ob_yes (wanted_yes rfl (by kernel_rfl) g130) ?_
              clear hF hD
              go_simp
              exact hK _ _ (Below.refl _ _) (rt_eqS s132)
            refine obsR_cons ?_ ?_
            · intro T wx K hB hF hD hK
              have g130 := get_eqS (hD 15 130 (by simp [Region.binds]) (by kernel_rfl)) s130
              have g131 := get_eqS (hD 16 131 (by simp [Region.binds]) (by kernel_rfl)) s131
              have g132 := get_eqS (hD 17 132 (by simp [Region.binds]) (by kernel_rfl)) s132
              refine ob_yes (wanted_yes rfl (by kernel_rfl) g130) ?_
              clear hF hD
              go_simp
              exact hK _ _ (Below.refl _ _) (rt_eqS s133)
            refine obsR_cons ?_ ?_
            · intro T wx K hB hF hD hK
              have g130 := get_eqS (hD 15 130 (by simp [Region.binds]) (by kernel_rfl)) s130
              have g133 := get_eqS (hD 18 133 (by simp [Region.binds]) (by kernel_rfl)) s133
              refine ob_yes (wanted_yes rfl (by kernel_rfl) g130) ?_
              clear hF hD
              have jc1 := (hB.cell (World.block_lt_of_cell? _ _ c1)).trans c1
              have jc2 := (hB.cell (World.block_lt_of_cell? _ _ c2)).trans c2
              have jc3 := (hB.cell (World.block_lt_of_cell? _ _ c3)).trans c3
              go_simp
              exact hK _ _ (Below.refl _ _) (rt_eqS s134)
            refine obsR_cons ?_ ?_
            · intro T wx K hB hF hD hK
              have g130 := get_eqS (hD 15 130 (by simp [Region.binds]) (by kernel_rfl)) s130
              have g16 : T[16]? = some (.pointer (some ⟨bx, 0, none⟩)) := hF 16 (freeM_of (by kernel_rfl))
              refine ob_yes (wanted_yes rfl (by kernel_rfl) g130) ?_
              clear hF hD
              exact wp_load_row 25 (.tmp 16) rfl _ (eval_tmp g16) _ _ _ _ (blk_call HX3.out hB) Tryd.underlying25 rfl (by kernel_rfl) (hK _ _ (Below.refl _ _) (rt_eqS s135))
            refine obsR_cons ?_ ?_
            · intro T wx K hB hF hD hK
              have g130 := get_eqS (hD 15 130 (by simp [Region.binds]) (by kernel_rfl)) s130
              have g134 := get_eqS (hD 19 134 (by simp [Region.binds]) (by kernel_rfl)) s134
              have g135 := get_eqS (hD 20 135 (by simp [Region.binds]) (by kernel_rfl)) s135
              refine ob_yes (wanted_yes rfl (by kernel_rfl) g130) ?_
              clear hF hD
              have EN := neqJ x y z e0 e1 e2 true EQ3
              go_simp
              exact hK _ _ (Below.refl _ _) (rt_eqS s136)
            refine obsR_cons ?_ ?_
            · intro T wx K hB hF hD hK
              have g120 := get_eqS (hD 5 120 (by simp [Region.binds]) (by kernel_rfl)) s120
              have g130 := get_eqS (hD 15 130 (by simp [Region.binds]) (by kernel_rfl)) s130
              have g136 := get_eqS (hD 21 136 (by simp [Region.binds]) (by kernel_rfl)) s136
              refine ob_yes (wanted_yes rfl (by kernel_rfl) g120) ?_
              clear hF hD
              go_simp
              exact hK _ _ (Below.refl _ _) (rt_eqS s137)
            refine obsR_cons ?_ ?_
            · intro T wx K hB hF hD hK
              have g120 := get_eqS (hD 5 120 (by simp [Region.binds]) (by kernel_rfl)) s120
              have g137 := get_eqS (hD 22 137 (by simp [Region.binds]) (by kernel_rfl)) s137
              refine ob_yes (wanted_none rfl) ?_
              clear hF hD
              go_simp
              exact hK _ _ (Below.refl _ _) (rt_eqS s138)
            exact obsR_nil
          · intro Tg Wg hb8 hF hs hD
            have g115 := get_eqS (hD 0 115 (by decide) (by kernel_rfl)) s115
            have g116 := get_eqS (hD 1 116 (by decide) (by kernel_rfl)) s116
            have g117 := get_eqS (hD 2 117 (by decide) (by kernel_rfl)) s117
            have g118 := get_eqS (hD 3 118 (by decide) (by kernel_rfl)) s118
            have g119 := get_eqS (hD 4 119 (by decide) (by kernel_rfl)) s119
            have g120 := get_eqS (hD 5 120 (by decide) (by kernel_rfl)) s120
            have g121 := get_eqS (hD 6 121 (by decide) (by kernel_rfl)) s121
            have g122 := get_eqS (hD 7 122 (by decide) (by kernel_rfl)) s122
            have g123 := get_eqS (hD 8 123 (by decide) (by kernel_rfl)) s123
            have g124 := get_eqS (hD 9 124 (by decide) (by kernel_rfl)) s124
            have g125 := get_eqS (hD 10 125 (by decide) (by kernel_rfl)) s125
            have g126 := get_eqS (hD 11 126 (by decide) (by kernel_rfl)) s126
            have g127 := get_eqS (hD 12 127 (by decide) (by kernel_rfl)) s127
            have g128 := get_eqS (hD 13 128 (by decide) (by kernel_rfl)) s128
            have g129 := get_eqS (hD 14 129 (by decide) (by kernel_rfl)) s129
            have g130 := get_eqS (hD 15 130 (by decide) (by kernel_rfl)) s130
            have g131 := get_eqS (hD 16 131 (by decide) (by kernel_rfl)) s131
            have g132 := get_eqS (hD 17 132 (by decide) (by kernel_rfl)) s132
            have g133 := get_eqS (hD 18 133 (by decide) (by kernel_rfl)) s133
            have g134 := get_eqS (hD 19 134 (by decide) (by kernel_rfl)) s134
            have g135 := get_eqS (hD 20 135 (by decide) (by kernel_rfl)) s135
            have g136 := get_eqS (hD 21 136 (by decide) (by kernel_rfl)) s136
            have g137 := get_eqS (hD 22 137 (by decide) (by kernel_rfl)) s137
            have g138 := get_eqS (hD 23 138 (by decide) (by kernel_rfl)) s138
            have hT9 := conc [(115, .int .i64 mf), (116, .agg #[.int .i64 e0, .int .i64 e1, .int .i64 e2]), (117, .agg #[.int .i64 a, .int .i64 b, .int .i64 c]), (118, .int .i64 mx), (119, .bool false), (120, .bool false), (121, .bool false), (122, .bool true), (123, .bool true), (124, .int .i64 mf), (125, .agg #[.int .i64 e0, .int .i64 e1, .int .i64 e2]), (126, .agg #[.int .i64 a, .int .i64 b, .int .i64 c]), (127, .int .i64 mx), (128, .bool true), (129, .bool true), (130, .bool true), (131, .slice (some ⟨b', o', none⟩) l.length lc), (132, .int .i64 j), (133, .pointer (some ⟨b', o' + j * 3, none⟩)), (134, .agg #[.int .i64 x, .int .i64 y, .int .i64 z]), (135, .agg #[.int .i64 e0, .int .i64 e1, .int .i64 e2]), (136, .bool false), (137, .bool false), (138, .bool false)] hs hF (by simp only [List.forall_mem_cons]; exact ⟨g115, g116, g117, g118, g119, g120, g121, g122, g123, g124, g125, g126, g127, g128, g129, g130, g131, g132, g133, g134, g135, g136, g137, g138, fun p hp => absurd hp List.not_mem_nil⟩) (by kernel_rfl)
            simp only [List.foldl, List.setIfInBounds_toArray, List.set_cons_succ, List.set_cons_zero] at hT9
            subst hT9
            clear hF hD hs g115 g116 g117 g118 g119 g120 g121 g122 g123 g124 g125 g126 g127 g128 g129 g130 g131 g132 g133 g134 g135 g136 g137 g138 s115 s116 s117 s118 s119 s120 s121 s122 s123 s124 s125 s126 s127 s128 s129 s130 s131 s132 s133 s134 s135 s136 s137 s138
            replace HQ3 := Lib.hid (blk_call HQ3.out hb8)
            replace HX3 := Lib.hid (blk_call HX3.out hb8)
            replace c1 := (hb8.cell (World.block_lt_of_cell? _ _ c1)).trans c1
            replace c2 := (hb8.cell (World.block_lt_of_cell? _ _ c2)).trans c2
            replace c3 := (hb8.cell (World.block_lt_of_cell? _ _ c3)).trans c3
            replace HB := Lib.hid (belT HB.out hb8)
            replace B3 := Lib.hid (belT B3.out hb8)
            clear hb8
            go_upto_region 26 with fail
            obtain ⟨sp, hsp⟩ : ∃ sp : ToldS, sp = [none, none, none, none, none, none, none, none, none, none, none, none, none, none, none, none, none, none, none, none, none, none, none, none, none, none, none, none, none, none, none, none, none, none, none, none, none, none, none, none, none, none, none, none, none, none, none, none, none, none, none, none, none, none, none, none, none, none, none, none, none, none, none, none, none, none, none, none, none, none, none, none, none, none, none, none, none, none, none, none, none, none, none, none, none, none, none, none, none, none, none, none, none, none, none, none, none, none, none, none, none, none, none, none, none, none, none, none, none, none, none, none, none, none, none, none, none, none, none, none, none, none, none, none, none, none, none, none, none, none, none, none, none, none, none, none, none, none, none, some (eqS (.bool false)), some (eqS (.bool false)), some (eqS (.slice (some ⟨b', o', none⟩) l.length lc)), some (eqS (.int .i64 j)), some (eqS (.pointer (some ⟨b', o' + j * 3, none⟩))), some (eqS (.agg #[.int .i64 x, .int .i64 y, .int .i64 z])), some (eqS (.agg #[.int .i64 e0, .int .i64 e1, .int .i64 e2])), some (eqS (.bool g3)), some (eqS (.bool g3))] := ⟨_, rfl⟩
            have s139 : sp.getD 139 none = some (eqS (.bool false)) := by rw [hsp]; rfl
            have s140 : sp.getD 140 none = some (eqS (.bool false)) := by rw [hsp]; rfl
            have s141 : sp.getD 141 none = some (eqS (.slice (some ⟨b', o', none⟩) l.length lc)) := by rw [hsp]; rfl
            have s142 : sp.getD 142 none = some (eqS (.int .i64 j)) := by rw [hsp]; rfl
            have s143 : sp.getD 143 none = some (eqS (.pointer (some ⟨b', o' + j * 3, none⟩))) := by rw [hsp]; rfl
            have s144 : sp.getD 144 none = some (eqS (.agg #[.int .i64 x, .int .i64 y, .int .i64 z])) := by rw [hsp]; rfl
            have s145 : sp.getD 145 none = some (eqS (.agg #[.int .i64 e0, .int .i64 e1, .int .i64 e2])) := by rw [hsp]; rfl
            have s146 : sp.getD 146 none = some (eqS (.bool g3)) := by rw [hsp]; rfl
            have s147 : sp.getD 147 none = some (eqS (.bool g3)) := by rw [hsp]; rfl
            clear hsp
            refine (wpIn_wide (n := 0)).1 (region_headR (RtS sp) (rtS_keep sp) 9 rfl rfl rfl (by kernel_rfl) (by decide) (by kernel_rfl) (by kernel_rfl) (by kernel_rfl) ?_ ?_)
            · intro Q'; show ObsR _ _ _ _ _ _ _ _ (List.take _ _); simp only [List.take_succ_cons, List.take_zero]
              refine obsR_cons ?_ ?_
              · intro T wx K hB hF hD hK
                have g18 : T[18]? = some (.bool false) := hF 18 (freeM_of (by kernel_rfl))
                refine ob_yes (wanted_none rfl) ?_
                clear hF hD
                go_simp
                exact hK _ _ (Below.refl _ _) (rt_eqS s139)
              refine obsR_cons ?_ ?_
              · intro T wx K hB hF hD hK
                have g139 := get_eqS (hD 0 139 (by simp [Region.binds]) (by kernel_rfl)) s139
                refine ob_yes (wanted_none rfl) ?_
                clear hF hD
                go_simp
                exact hK _ _ (Below.refl _ _) (rt_eqS s140)
              refine obsR_cons ?_ ?_
              · intro T wx K hB hF hD hK
                have g140 := get_eqS (hD 1 140 (by simp [Region.binds]) (by kernel_rfl)) s140
                have g0 : T[0]? = some (.slice (some ⟨b', o', none⟩) l.length lc) := hF 0 (freeM_of (by kernel_rfl))
                refine ob_yes (wanted_yes rfl (by kernel_rfl) g140) ?_
                clear hF hD
                go_simp
                exact hK _ _ (Below.refl _ _) (rt_eqS s141)
              refine obsR_cons ?_ ?_
              · intro T wx K hB hF hD hK
                have g140 := get_eqS (hD 1 140 (by simp [Region.binds]) (by kernel_rfl)) s140
                have g19 : T[19]? = some (.int .i64 j) := hF 19 (freeM_of (by kernel_rfl))
                refine ob_yes (wanted_yes rfl (by kernel_rfl) g140) ?_
                clear hF hD
                go_simp
                exact hK _ _ (Below.refl _ _) (rt_eqS s142)
              refine obsR_cons ?_ ?_
              · intro T wx K hB hF hD hK
                have g140 := get_eqS (hD 1 140 (by simp [Region.binds]) (by kernel_rfl)) s140
                have g141 := get_eqS (hD 2 141 (by simp [Region.binds]) (by kernel_rfl)) s141
                have g142 := get_eqS (hD 3 142 (by simp [Region.binds]) (by kernel_rfl)) s142
                refine ob_yes (wanted_yes rfl (by kernel_rfl) g140) ?_
                clear hF hD
                go_simp
                exact hK _ _ (Below.refl _ _) (rt_eqS s143)
              refine obsR_cons ?_ ?_
              · intro T wx K hB hF hD hK
                have g140 := get_eqS (hD 1 140 (by simp [Region.binds]) (by kernel_rfl)) s140
                have g143 := get_eqS (hD 4 143 (by simp [Region.binds]) (by kernel_rfl)) s143
                refine ob_yes (wanted_yes rfl (by kernel_rfl) g140) ?_
                clear hF hD
                have jc1 := (hB.cell (World.block_lt_of_cell? _ _ c1)).trans c1
                have jc2 := (hB.cell (World.block_lt_of_cell? _ _ c2)).trans c2
                have jc3 := (hB.cell (World.block_lt_of_cell? _ _ c3)).trans c3
                go_simp
                exact hK _ _ (Below.refl _ _) (rt_eqS s144)
              refine obsR_cons ?_ ?_
              · intro T wx K hB hF hD hK
                have g140 := get_eqS (hD 1 140 (by simp [Region.binds]) (by kernel_rfl)) s140
                have g16 : T[16]? = some (.pointer (some ⟨bx, 0, none⟩)) := hF 16 (freeM_of (by kernel_rfl))
                refine ob_yes (wanted_yes rfl (by kernel_rfl) g140) ?_
                clear hF hD
                exact wp_load_row 25 (.tmp 16) rfl _ (eval_tmp g16) _ _ _ _ (blk_call HX3.out hB) Tryd.underlying25 rfl (by kernel_rfl) (hK _ _ (Below.refl _ _) (rt_eqS s145))
              refine obsR_cons ?_ ?_
              · intro T wx K hB hF hD hK
                have g140 := get_eqS (hD 1 140 (by simp [Region.binds]) (by kernel_rfl)) s140
                have g144 := get_eqS (hD 5 144 (by simp [Region.binds]) (by kernel_rfl)) s144
                have g145 := get_eqS (hD 6 145 (by simp [Region.binds]) (by kernel_rfl)) s145
                refine ob_yes (wanted_yes rfl (by kernel_rfl) g140) ?_
                clear hF hD
                have EN := eqlJ x y z e0 e1 e2 g3 G3
                go_simp
                exact hK _ _ (Below.refl _ _) (rt_eqS s146)
              refine obsR_cons ?_ ?_
              · intro T wx K hB hF hD hK
                have g140 := get_eqS (hD 1 140 (by simp [Region.binds]) (by kernel_rfl)) s140
                have g146 := get_eqS (hD 7 146 (by simp [Region.binds]) (by kernel_rfl)) s146
                refine ob_yes (wanted_none rfl) ?_
                clear hF hD
                go_simp
                exact hK _ _ (Below.refl _ _) (rt_eqS s147)
              exact obsR_nil
            · intro Th w8 hb8 hF hs hD
              have g139 := get_eqS (hD 0 139 (by decide) (by kernel_rfl)) s139
              have g140 := get_eqS (hD 1 140 (by decide) (by kernel_rfl)) s140
              have g141 := get_eqS (hD 2 141 (by decide) (by kernel_rfl)) s141
              have g142 := get_eqS (hD 3 142 (by decide) (by kernel_rfl)) s142
              have g143 := get_eqS (hD 4 143 (by decide) (by kernel_rfl)) s143
              have g144 := get_eqS (hD 5 144 (by decide) (by kernel_rfl)) s144
              have g145 := get_eqS (hD 6 145 (by decide) (by kernel_rfl)) s145
              have g146 := get_eqS (hD 7 146 (by decide) (by kernel_rfl)) s146
              have g147 := get_eqS (hD 8 147 (by decide) (by kernel_rfl)) s147
              have hT9 := conc [(139, .bool false), (140, .bool false), (141, .slice (some ⟨b', o', none⟩) l.length lc), (142, .int .i64 j), (143, .pointer (some ⟨b', o' + j * 3, none⟩)), (144, .agg #[.int .i64 x, .int .i64 y, .int .i64 z]), (145, .agg #[.int .i64 e0, .int .i64 e1, .int .i64 e2]), (146, .bool g3), (147, .bool g3)] hs hF (by simp only [List.forall_mem_cons]; exact ⟨g139, g140, g141, g142, g143, g144, g145, g146, g147, fun p hp => absurd hp List.not_mem_nil⟩) (by kernel_rfl)
              simp only [List.foldl, List.setIfInBounds_toArray, List.set_cons_succ, List.set_cons_zero] at hT9
              subst hT9
              clear hF hD hs g139 g140 g141 g142 g143 g144 g145 g146 g147 s139 s140 s141 s142 s143 s144 s145 s146 s147
              show wpOpsIn _ _ _ _ _ [9] _ _
              refine tail_one rfl rfl rfl rfl rfl (by intro c e; cases e) ?_
              go_simp
              simp only [wpOpsIn]
              replace HB := Lib.hid (belT HB.out hb8)
              go_wp2_with fail
              have HG4 := HG3
              refine ⟨⟨_, .bool g3, .int .i64 (j + 1), ⟨j + 1, by omega, by go_num, or_of HG4⟩, rfl, rfl, rfl⟩, by simp [intOf]; omega⟩

set_option maxRecDepth 100000 in
theorem lifted (os : Os) (started : os.Started) (H : Type) (enc : TypeId × Value → H) :
    ReturnsInHanded {} Tryd.checked os 9 .any (fun w args => (Rows.invkinNearestSpec.pre enc Tryd.prog Tryd.f9 [] false w args ∧ laidMetH Tryd.prog Rows.invkinNearestRow.laid w) ∧ sizedMet enc Tryd.prog Tryd.f9 (OpenSpec.ofChange Rows.invkinNearestSpec) false w args)
      (Rows.invkinNearestSpec.post enc Tryd.prog Tryd.f9 false true false false) := by
  refine returnsInHanded_of_change_and (C := Tryd.checked) (X := fun w _ => laidMetH Tryd.prog Rows.invkinNearestRow.laid w) (fun _ _ _ hh h => h.of_heap hh) own started (by kernel_rfl) Tryd.func9
    (ChangeSpec.witness_shaped (enc := enc) (C := Tryd.checked) (os := os) (X := fun w _ => laidMetH Tryd.prog Rows.invkinNearestRow.laid w) false (World.doorLaid Tryd.prog 600 os) #[.slice none 0 0, .agg #[.int .i64 0, .int .i64 0, .int .i64 0], .agg #[.int .i64 0, .int .i64 0, .int .i64 0], .agg #[.int .i64 0, .int .i64 0, .int .i64 0]] 8 rfl (World.shaped_of_RefB (by kernel_rfl) (by kernel_rfl)) (by kernel_rfl) (by kernel_rfl) (by kernel_rfl) (show laidMetH Tryd.prog [(qn, Rows.laid_ambidexter_rotation_quadrant)] _ from door_met os _)) ?_
  intro W base args ds gs before hval0 hW _ _ hL _
  have hval : ∀ (j : Nat) t v, Tryd.f9.params[j]? = some t → args[j]? = some v → Value.okWide Tryd.prog W .any base t v := hval0
  have hW' := hW
  obtain ⟨p, q, hA0, hV, rfl, hfz, hnd⟩ := hW
  have hA : DataW.TrodAll enc Tryd.prog W 0 (fun _ => true) true Tryd.f9.params.toList args.toList ds p := hA0
  rw [Tryd.params9] at hA hval
  obtain ⟨v0, vs0, d0, ds0, p0, q0, hargs, rfl, rfl, h0, r0⟩ := trodAll_cons hA
  obtain ⟨v1, vs1, d1, ds1, p1, q1, rfl, rfl, rfl, h1, r1⟩ := trodAll_cons r0
  obtain ⟨v2, vs2, d2, ds2, p2, q2, rfl, rfl, rfl, h2, r2⟩ := trodAll_cons r1
  obtain ⟨v3, vs3, d3, ds3, p3, q3, rfl, rfl, rfl, h3, r3⟩ := trodAll_cons r2
  obtain ⟨rfl, rfl, rfl⟩ := trodAll_nil r3
  obtain rfl : args = #[v0, v1, v2, v3] := by cases args; simp_all
  obtain ⟨rfl, rfl⟩ := trodVars_none hV
  have k0 := h0
  have lt0 : ∀ x ∈ p0, x.block < W.heap.size := by obtain ⟨m, hm⟩ := k0; exact DataW.trod_lt m _ _ _ hm
  obtain ⟨a0, cap0, l0, rfl, n0, w0⟩ := AFr.open_jts (hval 0 31 v0 rfl rfl) h0
  have k1 := h1
  have lt1 : ∀ x ∈ p1, x.block < W.heap.size := by obtain ⟨m, hm⟩ := k1; exact DataW.trod_lt m _ _ _ hm
  obtain ⟨c1_0, c1_1, c1_2, rfl, b1_0, b1_1, b1_2⟩ := AFr.open_joints (hval 1 25 v1 rfl rfl) h1
  have k2 := h2
  have lt2 : ∀ x ∈ p2, x.block < W.heap.size := by obtain ⟨m, hm⟩ := k2; exact DataW.trod_lt m _ _ _ hm
  obtain ⟨c2_0, c2_1, c2_2, rfl, b2_0, b2_1, b2_2⟩ := AFr.open_joints (hval 2 25 v2 rfl rfl) h2
  have k3 := h3
  have lt3 : ∀ x ∈ p3, x.block < W.heap.size := by obtain ⟨m, hm⟩ := k3; exact DataW.trod_lt m _ _ _ hm
  obtain ⟨c3_0, c3_1, c3_2, rfl, b3_0, b3_1, b3_2⟩ := AFr.open_joints (hval 3 25 v3 rfl rfl) h3
  clear hA0 hval0
  simp only [List.append_nil] at hW'
  refine (walk a0 cap0 l0 n0 c1_0 c1_1 c1_2 c2_0 c2_1 c2_2 c3_0 c3_1 c3_2 W w0 (tab_of_laid hL)).mono fun e W' ⟨he, bel⟩ => ?_
  subst he
  exact ⟨_, rfl, _, _, _, [], _, [], hW', trodAll_mk1 (shut_bool Tryd.underlying4 _), (trodAll_cons_mk (Below.trod HFr.laidOut (by kernel_rfl) (of_decide_eq_true (by kernel_rfl)) k0 bel lt0) (trodAll_cons_mk (Below.trod HFr.laidOut (by kernel_rfl) (of_decide_eq_true (by kernel_rfl)) k1 bel lt1) (trodAll_cons_mk (Below.trod HFr.laidOut (by kernel_rfl) (of_decide_eq_true (by kernel_rfl)) k2 bel lt2) (trodAll_cons_mk (Below.trod HFr.laidOut (by kernel_rfl) (of_decide_eq_true (by kernel_rfl)) k3 bel lt3) trodAll_mk0)))), rfl, bel.frame _, fun h => by cases h⟩

theorem holds : Rows.InvkinNearestSaid :=
  OpenClaim.holds_of_wide 9 Tryd.f9 rfl rfl rfl rfl rfl rfl rfl ⟨rfl, rfl, rfl, rfl, rfl⟩ rfl rfl rfl rfl rfl (by kernel_rfl) Tryd.func9 (by kernel_rfl)
    (of_decide_eq_true (by kernel_rfl)) (by unfold Func.isWrapper; first | (rw [if_pos (by decide +kernel)]; kernel_rfl) | (rw [if_neg (by decide +kernel)]; exact ⟨rfl, rfl⟩))
    (fun os started H enc _ => lifted os started H enc)

/-- THE STATEMENT: the tied card. -/
theorem card_holds : Rows.InvkinNearestCardSaid :=
  Claim7.holds_tied_plain_at .later [] [.data] true Rows.invkinNearestCard.stood.harness false
    holds (fun _ h => by cases h) (by kernel_rfl) (fun _ h => by cases h) invkinNearest_row_tie rfl ⟨rfl, rfl⟩ (by kernel_rfl) rfl
    (fun f fn hf hfn => by
      obtain rfl : f = 9 := Option.some.inj ((show Tryd.prog.funcNamed Rows.invkinNearestRow.func = some 9 by kernel_rfl).symm.trans hf) |>.symm
      obtain rfl : fn = Tryd.f9 := (Option.some.inj (Tryd.func9.symm.trans hfn)).symm
      exact ⟨by kernel_rfl, fun j t ht => by
        rw [Tryd.params9] at ht
        have hm : t ∈ [31, 25] := by have := Array.mem_of_getElem? ht; simp only [List.mem_toArray, List.mem_cons, List.not_mem_nil, or_false] at this ⊢; grind
        have hall : ([31, 25].all fun u => !Tryd.prog.wantsStandIn u) = true := by kernel_rfl
        exact (show Tryd.prog.wantsStandIn t = false by simpa using List.all_eq_true.1 hall t hm)⟩)
    (by kernel_rfl)
#print axioms card_holds
end Go.Proofs.YtceejjamngplkaaDoor.invkinNearest
