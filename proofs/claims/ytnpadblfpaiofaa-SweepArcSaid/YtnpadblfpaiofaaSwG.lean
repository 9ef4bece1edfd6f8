/- Contract of the reference's Points. The coordinates are bounded. -/
import Derived.Test.YtnpadblfpaiofaaSwF
namespace Go.Proofs.Ytnpadblfpaiofaa
open Go.ChangeShapes Go.WideShapes Go.ChangeAt Go.RowKit
set_option linter.unusedVariables false
set_option linter.unusedSimpArgs false

theorem gp_app1 {a b : List (Int × Int)} {k : Nat} (h : k < a.length) : gp (a ++ b) k = gp a k := by unfold gp; rw [List.getD_eq_getElem?_getD, List.getD_eq_getElem?_getD, List.getElem?_append_left h]
theorem gp_app2 {a b : List (Int × Int)} {k : Nat} : gp (a ++ b) (a.length + k) = gp b k := by unfold gp; rw [List.getD_eq_getElem?_getD, List.getD_eq_getElem?_getD, List.getElem?_append_right (by omega), Nat.add_sub_cancel_left]
theorem cx_gp {l m : List (Int × Int)} {i j : Nat} (h : gp l i = gp m j) : cx l i = cx m j ∧ cy l i = cy m j := ⟨congrArg Prod.fst h, congrArg Prod.snd h⟩

set_option maxRecDepth 100000 in
set_option maxHeartbeats 8000000 in
theorem points_is (ao bo : Option Addr) (n ca cb : Nat) (o1 o2 : Int) (a b us : List (Int × Int)) (w : World) (hna : a.length = n) (hnb : b.length = n) (hu : Hid (ptsL (o1, o2) a b = us)) (hle : n ≤ 1000) (hA : PRow w ao a) (hB : PRow w bo b) (hVA : AllV a) (hVB : AllV b) (k1 : InV o1) (k2 : InV o2) :
    Calls Try.prog 29 #[.agg #[.int .i64 o1, .int .i64 o2], .slice ao n ca, .slice bo n cb] w fun e w' => (∃ ao c, e = .returned (.slice ao us.length c) ∧ PRow w' ao us) ∧ Below w.heap.size w w' := by
  obtain ⟨i0, hi, hz0, hz1', hz2⟩ := info_parts infoP
  have HA := Lib.hid hA
  have HB := Lib.hid hB
  have VA := Lib.hid hVA
  have VB := Lib.hid hVB
  have K := Lib.hid (And.intro k1 k2)
  have hol : (outL (o1, o2) a b).length = n := by rw [outL_len _ _ _ (by omega), hna]
  have HUL : Hid (us.length = n + n + n) := Lib.hid (by rw [← hu.out]; unfold ptsL; rw [List.length_append, List.length_append, hol]; omega)
  have U1 : Hid (∀ k, k < n → cx us k = cx a k ∧ cy us k = cy a k) := Lib.hid (fun k hk => cx_gp (by rw [← hu.out]; unfold ptsL; rw [List.append_assoc, gp_app1 (by omega)]))
  have U2 : Hid (∀ k, k < n → cx us (n + k) = cx b k ∧ cy us (n + k) = cy b k) := Lib.hid (fun k hk => cx_gp (by rw [← hu.out]; unfold ptsL; rw [List.append_assoc, ← hna, gp_app2, gp_app1 (by omega)]))
  have U3 : Hid (∀ k, k < n → outP (o1, o2) (cx a k, cy a k) (cx b k, cy b k) = (cx us (n + n + k), cy us (n + n + k))) := Lib.hid (fun k hk => by
    have e : gp us (n + n + k) = outP (o1, o2) (gp a k) (gp b k) := by
      rw [← hu.out, ← outL_at (o1, o2) a b (by omega) (by omega)]; unfold ptsL
      rw [show n + n + k = (a ++ b).length + k by rw [List.length_append]; omega, gp_app2]
    exact e.symm)
  have N := Lib.hid (And.intro hna hnb)
  clear hA hB hVA hVB k1 k2 hol hu hna hnb
  go_enter Try.func29, Try.ntmps29
  go_wp2
  have hb0 := belA (Below.refl _ w) (.cells #[.int .i64 o1, .int .i64 o2] 35)
  have X1 := blk_new w (.cells #[.int .i64 o1, .int .i64 o2] 35) _ rfl
  have hs1 : (w.alloc (.cells #[.int .i64 o1, .int .i64 o2] 35)).heap.size = w.heap.size + 1 := by simp
  have PA := Lib.hid (prow_below HA.out hb0)
  have PB := Lib.hid (prow_below HB.out hb0)
  have B0 := Lib.hid hb0
  generalize w.alloc (.cells #[.int .i64 o1, .int .i64 o2] 35) = w1 at *
  generalize hzx : w.heap.size = zx at *
  have HZX := Lib.hid hzx
  have HX1 := Lib.hid X1
  clear hb0 X1 HA HB
  go_loopw [7, 8] (fun v i wr => ∃ (vv : Value) (k : Nat), vv = v ∧ k ≤ n ∧ i = .int .i64 k ∧ wr.ownsRow (zx + 1) 35 2 v (k) (flat (us.take (k))) ∧ Below w1.heap.size w1 wr) (fun _ i _ => n - (intOf i).toNat)
  case atStart => exact ⟨_, 0, rfl, Nat.zero_le _, rfl, by have := World.ownsRow_lit w1 (base := w1.heap.size) (e := 35) (size := 2) #[] 0 (Nat.le_refl _) (by decide) rfl; rw [hs1] at this; exact this, belA (Below.refl _ _) _⟩
  case round =>
    obtain ⟨v, k, rfl, hk, rfl, hown, hB⟩ := hrel
    have HO := Lib.hid hown
    have HB := Lib.hid hB
    clear hown hB
    by_cases hkn : k < n
    · have hki : (k : Int) < n := by omega
      obtain ⟨b', o', rfl, c1, c2⟩ := prow_at (prow_below PA.out HB.out) (i := k) (by rw [N.out.1]; exact hkn)
      obtain ⟨e1, e2⟩ := U1.out k hkn
      rw [← e1] at c1
      rw [← e2] at c2
      have hz := HB.out.size
      have E : Hid (flat (us.take (k + 1)) = flat (us.take (k)) ++ [.int .i64 (cx us (k)), .int .i64 (cy us (k))]) := Lib.hid (flat_take us _ (by rw [HUL.out]; omega))
      clear e1 e2
      generalize cx us (k) = x at *
      generalize cy us (k) = y at *
      have ho3 := HO.out.alloc (.cells #[.int .i64 x, .int .i64 y] 35)
      have HO3 := Lib.hid ho3
      go_wp2_with (at_builtin; refine wpList_append_own _ rfl _ _ 22 rfl (zx + 1) 35 i0 (.agg #[.int .i64 0, .int .i64 0]) 2 16 Try.underlying22 hi hz0 hz1' hz2 rfl (by decide) _ _ _ rfl ho3 ⟨wr.heap.size, 0, none⟩ 1 1 [.int .i64 x, .int .i64 y] rfl rfl ?c81 ?c82 ?c83 ?c84 ?c85 ?_)
      try case c81 =>
        intro j u hj
        match j, hj with
        | 0, hj => simp at hj; subst hj; exact cbx' _ _ _ _ 0 _ rfl rfl
        | 1, hj => simp at hj; subst hj; exact cbx' _ _ _ _ 1 _ rfl rfl
      try case c82 => intro u hu; simp at hu; rcases hu with rfl | rfl <;> rfl
      try case c83 => unfold maxLen; omega
      try case c84 => omega
      try case c85 => simp; omega
      intro v' w3 hown' hgrow _
      have HB3 := Lib.hid ((belA HB.out (.cells #[.int .i64 x, .int .i64 y] 35)).grown hgrow (by simp; omega) (fun g hg => by have := (HO3.out.lt g hg).1; omega))
      have HO4 : Hid (w3.ownsRow (zx + 1) 35 2 v' (k + 1) (flat (us.take (k + 1)))) := Lib.hid (by rw [E.out]; exact hown')
      clear hown' hgrow ho3 c1 c2
      go_wp2
      go_roundw
      case rel => exact ⟨_, k + 1, rfl, by omega, by go_num, HO4.out, HB3.out⟩
      case measure => simp [intOf]; omega
    · have HK : Hid (k = n) := Lib.hid (by omega)
      have hki : ¬ (k : Int) < n := by omega
      replace HO := Lib.hid (by have := HO.out; rw [HK.out] at this; exact this)
      clear hkn
      go_wp2
      go_loopw [7, 9] (fun v i wr => ∃ (vv : Value) (k : Nat), vv = v ∧ k ≤ n ∧ i = .int .i64 k ∧ wr.ownsRow (zx + 1) 35 2 v (n + k) (flat (us.take (n + k))) ∧ Below w1.heap.size w1 wr) (fun _ i _ => n - (intOf i).toNat)
      case atStart => exact ⟨_, 0, rfl, Nat.zero_le _, rfl, HO.out, HB.out⟩
      case round =>
        obtain ⟨v, k, rfl, hk, rfl, hown, hB⟩ := hrel
        have HO := Lib.hid hown
        have HB := Lib.hid hB
        clear hown hB
        by_cases hkn : k < n
        · have hki : (k : Int) < n := by omega
          obtain ⟨b', o', rfl, c1, c2⟩ := prow_at (prow_below PB.out HB.out) (i := k) (by rw [N.out.2]; exact hkn)
          obtain ⟨e1, e2⟩ := U2.out k hkn
          rw [← e1] at c1
          rw [← e2] at c2
          have hz := HB.out.size
          have E : Hid (flat (us.take (n + k + 1)) = flat (us.take (n + k)) ++ [.int .i64 (cx us (n + k)), .int .i64 (cy us (n + k))]) := Lib.hid (flat_take us _ (by rw [HUL.out]; omega))
          clear e1 e2
          generalize cx us (n + k) = x at *
          generalize cy us (n + k) = y at *
          have ho3 := HO.out.alloc (.cells #[.int .i64 x, .int .i64 y] 35)
          have HO3 := Lib.hid ho3
          go_wp2_with (at_builtin; refine wpList_append_own _ rfl _ _ 22 rfl (zx + 1) 35 i0 (.agg #[.int .i64 0, .int .i64 0]) 2 16 Try.underlying22 hi hz0 hz1' hz2 rfl (by decide) _ _ _ rfl ho3 ⟨wr.heap.size, 0, none⟩ 1 1 [.int .i64 x, .int .i64 y] rfl rfl ?c91 ?c92 ?c93 ?c94 ?c95 ?_)
          try case c91 =>
            intro j u hj
            match j, hj with
            | 0, hj => simp at hj; subst hj; exact cbx' _ _ _ _ 0 _ rfl rfl
            | 1, hj => simp at hj; subst hj; exact cbx' _ _ _ _ 1 _ rfl rfl
          try case c92 => intro u hu; simp at hu; rcases hu with rfl | rfl <;> rfl
          try case c93 => unfold maxLen; omega
          try case c94 => omega
          try case c95 => simp; omega
          intro v' w3 hown' hgrow _
          have HB3 := Lib.hid ((belA HB.out (.cells #[.int .i64 x, .int .i64 y] 35)).grown hgrow (by simp; omega) (fun g hg => by have := (HO3.out.lt g hg).1; omega))
          have HO4 : Hid (w3.ownsRow (zx + 1) 35 2 v' (n + k + 1) (flat (us.take (n + k + 1)))) := Lib.hid (by rw [E.out]; exact hown')
          clear hown' hgrow ho3 c1 c2
          go_wp2
          go_roundw
          case rel => exact ⟨_, k + 1, rfl, by omega, by go_num, HO4.out, HB3.out⟩
          case measure => simp [intOf]; omega
        · have HK2 : Hid (k = n) := Lib.hid (by omega)
          have hki : ¬ (k : Int) < n := by omega
          replace HO := Lib.hid (by have := HO.out; rw [HK2.out] at this; exact this)
          clear hkn
          go_wp2
          go_loopw [7, 10] (fun v i wr => ∃ (vv : Value) (k : Nat), vv = v ∧ k ≤ n ∧ i = .int .i64 k ∧ wr.ownsRow (zx + 1) 35 2 v (n + n + k) (flat (us.take (n + n + k))) ∧ Below w1.heap.size w1 wr) (fun _ i _ => n - (intOf i).toNat)
          case atStart => exact ⟨_, 0, rfl, Nat.zero_le _, rfl, HO.out, HB.out⟩
          case round =>
            obtain ⟨v, k, rfl, hk, rfl, hown, hB⟩ := hrel
            replace HO := Lib.hid hown
            replace HB := Lib.hid hB
            clear hown hB
            by_cases hkn : k < n
            · have hki : (k : Int) < n := by omega
              obtain ⟨p, q, rfl, c1, c2⟩ := prow_at (prow_below PA.out HB.out) (i := k) (by rw [N.out.1]; exact hkn)
              obtain ⟨p', q', rfl, c3, c4⟩ := prow_at (prow_below PB.out HB.out) (i := k) (by rw [N.out.2]; exact hkn)
              have va := VA.out k (by rw [N.out.1]; exact hkn)
              have vb := VB.out k (by rw [N.out.2]; exact hkn)
              have X2 := blk_call HX1.out HB.out
              have f0 := blk_cell X2 0 _ rfl
              have f1 := blk_cell X2 1 _ rfl
              have hz := HB.out.size
              have C := Lib.hid (fun W => outer_is o1 o2 (cx a k) (cy a k) (cx b k) (cy b k) _ W K.out.1 K.out.2 va.1 va.2 vb.1 vb.2 (Lib.hid (U3.out k hkn)))
              have E : Hid (flat (us.take (n + n + k + 1)) = flat (us.take (n + n + k)) ++ [.int .i64 (cx us (n + n + k)), .int .i64 (cy us (n + n + k))]) := Lib.hid (flat_take us _ (by rw [HUL.out]; omega))
              clear va vb X2
              generalize cx us (n + n + k) = x at *
              generalize cy us (n + n + k) = y at *
              generalize cx a k = x1 at *
              generalize cy a k = x2 at *
              generalize cx b k = y1 at *
              generalize cy b k = y2 at *
              go_upto_region 13 with fail
              obtain ⟨sp, hsp⟩ : ∃ sp : ToldS, sp = [none, none, none, none, none, none, none, none, none, none, none, none, none, none, none, none, none, none, none, none, none, none, none, none, none, none, none, none, none, none, none, none, none, none, none, none, none, none, none, none, none, none, none, none, none, none, none, none, none, none, some (eqS (v)), some (eqS (.agg #[.int .i64 o1, .int .i64 o2])), some (eqS (.slice (some ⟨p, q, none⟩) n ca)), some (eqS (.int .i64 (k : Int))), some (eqS (.pointer (some ⟨p, q + k * 2, none⟩))), some (eqS (.agg #[.int .i64 x1, .int .i64 x2])), some (eqS (.slice (some ⟨p', q', none⟩) n cb)), some (eqS (.int .i64 (k : Int))), some (eqS (.pointer (some ⟨p', q' + k * 2, none⟩))), some (eqS (.agg #[.int .i64 y1, .int .i64 y2])), some (eqS (.agg #[.int .i64 x, .int .i64 y])), some (rowB [(x, y)])] := ⟨_, rfl⟩
              have s50 : sp.getD 50 none = some (eqS (v)) := by rw [hsp]; rfl
              have s51 : sp.getD 51 none = some (eqS (.agg #[.int .i64 o1, .int .i64 o2])) := by rw [hsp]; rfl
              have s52 : sp.getD 52 none = some (eqS (.slice (some ⟨p, q, none⟩) n ca)) := by rw [hsp]; rfl
              have s53 : sp.getD 53 none = some (eqS (.int .i64 (k : Int))) := by rw [hsp]; rfl
              have s54 : sp.getD 54 none = some (eqS (.pointer (some ⟨p, q + k * 2, none⟩))) := by rw [hsp]; rfl
              have s55 : sp.getD 55 none = some (eqS (.agg #[.int .i64 x1, .int .i64 x2])) := by rw [hsp]; rfl
              have s56 : sp.getD 56 none = some (eqS (.slice (some ⟨p', q', none⟩) n cb)) := by rw [hsp]; rfl
              have s57 : sp.getD 57 none = some (eqS (.int .i64 (k : Int))) := by rw [hsp]; rfl
              have s58 : sp.getD 58 none = some (eqS (.pointer (some ⟨p', q' + k * 2, none⟩))) := by rw [hsp]; rfl
              have s59 : sp.getD 59 none = some (eqS (.agg #[.int .i64 y1, .int .i64 y2])) := by rw [hsp]; rfl
              have s60 : sp.getD 60 none = some (eqS (.agg #[.int .i64 x, .int .i64 y])) := by rw [hsp]; rfl
              have s61 : sp.getD 61 none = some (rowB [(x, y)]) := by rw [hsp]; rfl
              clear hsp
              refine (wpIn_wide (n := 0)).1 (region_headR (RtS sp) (rtS_keep sp) 12 rfl rfl rfl (by kernel_rfl) (by decide) (by kernel_rfl) (by kernel_rfl) (by kernel_rfl) ?_ ?_)
              · intro Q'; show ObsR _ _ _ _ _ _ _ _ (List.take _ _); simp only [List.take_succ_cons, List.take_zero]
                refine obsR_cons ?_ ?_
                · intro T wx K hB hF hD hK
                  have g7 : T[7]? = some (v) := hF 7 (freeM_of (by kernel_rfl))
                  refine ob_yes (wanted_none rfl) ?_
                  clear hF hD
                  go_simp
                  exact hK _ _ (Below.refl _ _) (rt_eqS s50)
                refine obsR_cons ?_ ?_
                · intro T wx K hB hF hD hK
                  have g3 : T[3]? = some (.pointer (some ⟨zx, 0, none⟩)) := hF 3 (freeM_of (by kernel_rfl))
                  refine ob_yes (wanted_none rfl) ?_
                  clear hF hD
                  have d1 := cell_call f0 hB
                  have d2 := cell_call f1 hB
                  go_simp
                  exact hK _ _ (Below.refl _ _) (rt_eqS s51)
                refine obsR_cons ?_ ?_
                · intro T wx K hB hF hD hK
                  have g1 : T[1]? = some (.slice (some ⟨p, q, none⟩) n ca) := hF 1 (freeM_of (by kernel_rfl))
                  refine ob_yes (wanted_none rfl) ?_
                  clear hF hD
                  go_simp
                  exact hK _ _ (Below.refl _ _) (rt_eqS s52)
                refine obsR_cons ?_ ?_
                · intro T wx K hB hF hD hK
                  have g10 : T[10]? = some (.int .i64 (k : Int)) := hF 10 (freeM_of (by kernel_rfl))
                  refine ob_yes (wanted_none rfl) ?_
                  clear hF hD
                  go_simp
                  exact hK _ _ (Below.refl _ _) (rt_eqS s53)
                refine obsR_cons ?_ ?_
                · intro T wx K hB hF hD hK
                  have g52 := get_eqS (hD 2 52 (by simp [Region.binds]) (by kernel_rfl)) s52
                  have g53 := get_eqS (hD 3 53 (by simp [Region.binds]) (by kernel_rfl)) s53
                  refine ob_yes (wanted_none rfl) ?_
                  clear hF hD
                  go_simp
                  exact hK _ _ (Below.refl _ _) (rt_eqS s54)
                refine obsR_cons ?_ ?_
                · intro T wx K hB hF hD hK
                  have g54 := get_eqS (hD 4 54 (by simp [Region.binds]) (by kernel_rfl)) s54
                  refine ob_yes (wanted_none rfl) ?_
                  clear hF hD
                  have d1 := cell_call c1 hB
                  have d2 := cell_call c2 hB
                  go_simp
                  exact hK _ _ (Below.refl _ _) (rt_eqS s55)
                refine obsR_cons ?_ ?_
                · intro T wx K hB hF hD hK
                  have g2 : T[2]? = some (.slice (some ⟨p', q', none⟩) n cb) := hF 2 (freeM_of (by kernel_rfl))
                  refine ob_yes (wanted_none rfl) ?_
                  clear hF hD
                  go_simp
                  exact hK _ _ (Below.refl _ _) (rt_eqS s56)
                refine obsR_cons ?_ ?_
                · intro T wx K hB hF hD hK
                  have g10 : T[10]? = some (.int .i64 (k : Int)) := hF 10 (freeM_of (by kernel_rfl))
                  refine ob_yes (wanted_none rfl) ?_
                  clear hF hD
                  go_simp
                  exact hK _ _ (Below.refl _ _) (rt_eqS s57)
                refine obsR_cons ?_ ?_
                · intro T wx K hB hF hD hK
                  have g56 := get_eqS (hD 6 56 (by simp [Region.binds]) (by kernel_rfl)) s56
                  have g57 := get_eqS (hD 7 57 (by simp [Region.binds]) (by kernel_rfl)) s57
                  refine ob_yes (wanted_none rfl) ?_
                  clear hF hD
                  go_simp
                  exact hK _ _ (Below.refl _ _) (rt_eqS s58)
                refine obsR_cons ?_ ?_
                · intro T wx K hB hF hD hK
                  have g58 := get_eqS (hD 8 58 (by simp [Region.binds]) (by kernel_rfl)) s58
                  refine ob_yes (wanted_none rfl) ?_
                  clear hF hD
                  have d3 := cell_call c3 hB
                  have d4 := cell_call c4 hB
                  go_simp
                  exact hK _ _ (Below.refl _ _) (rt_eqS s59)
                refine obsR_cons ?_ ?_
                · intro T wx K hB hF hD hK
                  have g51 := get_eqS (hD 1 51 (by simp [Region.binds]) (by kernel_rfl)) s51
                  have g55 := get_eqS (hD 5 55 (by simp [Region.binds]) (by kernel_rfl)) s55
                  have g59 := get_eqS (hD 9 59 (by simp [Region.binds]) (by kernel_rfl)) s59
                  refine ob_yes (wanted_none rfl) ?_
                  clear hF hD
                  go_simp
                  refine (C.out _).mono ?_; rintro e w9 ⟨rfl, hb⟩
                  exact hK _ _ hb (rt_eqS s60)
                refine obsR_cons ?_ ?_
                · intro T wx K hB hF hD hK
                  have g60 := get_eqS (hD 10 60 (by simp [Region.binds]) (by kernel_rfl)) s60
                  refine ob_yes (wanted_none rfl) ?_
                  clear hF hD
                  go_simp
                  exact hK _ _ (belA (Below.refl _ _) _) (rt_S s61 (app_fresh _ _ _ _))
                exact obsR_nil
              · intro T w8 hb hF hs hD
                have g50 := get_eqS (hD 0 50 (by decide) (by kernel_rfl)) s50
                have g51 := get_eqS (hD 1 51 (by decide) (by kernel_rfl)) s51
                have g52 := get_eqS (hD 2 52 (by decide) (by kernel_rfl)) s52
                have g53 := get_eqS (hD 3 53 (by decide) (by kernel_rfl)) s53
                have g54 := get_eqS (hD 4 54 (by decide) (by kernel_rfl)) s54
                have g55 := get_eqS (hD 5 55 (by decide) (by kernel_rfl)) s55
                have g56 := get_eqS (hD 6 56 (by decide) (by kernel_rfl)) s56
                have g57 := get_eqS (hD 7 57 (by decide) (by kernel_rfl)) s57
                have g58 := get_eqS (hD 8 58 (by decide) (by kernel_rfl)) s58
                have g59 := get_eqS (hD 9 59 (by decide) (by kernel_rfl)) s59
                have g60 := get_eqS (hD 10 60 (by decide) (by kernel_rfl)) s60
                obtain ⟨v61, g61, p61⟩ := getS (hD 11 61 (by decide) (by kernel_rfl)) s61
                have hT := conc [(50, v), (51, .agg #[.int .i64 o1, .int .i64 o2]), (52, .slice (some ⟨p, q, none⟩) n ca), (53, .int .i64 (k : Int)), (54, .pointer (some ⟨p, q + k * 2, none⟩)), (55, .agg #[.int .i64 x1, .int .i64 x2]), (56, .slice (some ⟨p', q', none⟩) n cb), (57, .int .i64 (k : Int)), (58, .pointer (some ⟨p', q' + k * 2, none⟩)), (59, .agg #[.int .i64 y1, .int .i64 y2]), (60, .agg #[.int .i64 x, .int .i64 y]), (61, v61)] hs hF (by simp only [List.forall_mem_cons]; exact ⟨g50, g51, g52, g53, g54, g55, g56, g57, g58, g59, g60, g61, fun p hp => absurd hp List.not_mem_nil⟩) (by kernel_rfl)
                simp only [List.foldl, List.setIfInBounds_toArray, List.set_cons_succ, List.set_cons_zero] at hT
                subst hT
                clear hF hD hs g50 g51 g52 g53 g54 g55 g56 g57 g58 g59 g60 g61 s50 s51 s52 s53 s54 s55 s56 s57 s58 s59 s60 s61
                show wpOpsIn _ _ _ _ _ [12, 13] _ _
                have hs8 := hb.size
                have HB8 := Lib.hid (HB.out.trans (hb.mono HB.out.size))
                have HO8 := own_bel HO.out hb
                obtain ⟨bn, cn, rfl, pn⟩ := p61
                clear hb c1 c2 c3 c4 f0 f1
                refine tail_append rfl rfl rfl rfl rfl (.tmp 50) (.tmp 61) 22 rfl (zx + 1) 35 i0 (.agg #[.int .i64 0, .int .i64 0]) 2 16 Try.underlying22 hi hz0 hz1' hz2 rfl (by decide) _ _ _ rfl HO8 ⟨bn, 0, none⟩ 1 cn [.int .i64 x, .int .i64 y] rfl rfl (row_news pn) (by intro u hu; simp at hu; rcases hu with rfl | rfl <;> rfl) (by decide) (by unfold maxLen; omega) (by omega) (by omega) ?_
                intro g' cap' w9 hown' hgrow hat hlt'
                have HB9 : Hid (Below w1.heap.size w1 w9) := Lib.hid (HB8.out.grown hgrow (by omega) (fun g e => by have := (HO8.lt g e).1; omega))
                rw [← E.out] at hown'
                have HO9 := Lib.hid hown'
                clear hgrow hown' HO8 hat
                simp only [wpOpsIn]
                go_simp
                go_wp2
                go_roundw
                case rel => exact ⟨_, k + 1, rfl, by omega, by go_num, HO9.out, HB9.out⟩
                case measure => simp [intOf]; omega
            · have HK3 : Hid (k = n) := Lib.hid (by omega)
              have hki : ¬ (k : Int) < n := by omega
              obtain ⟨ao', c', rfl, pr⟩ := own_row (l := us) (base := zx + 1) (by have := HO.out; rw [HK3.out, ← HUL.out, List.take_length] at this; exact this)
              have PR := Lib.hid pr
              have HB2 : Hid (Below zx w wr) := Lib.hid (B0.out.trans (HB.out.mono (by omega)))
              clear pr
              go_wp2
              go_ret
              exact ⟨⟨ao', ⟨c', rfl⟩, PR.out⟩, HB2.out⟩
end Go.Proofs.Ytnpadblfpaiofaa
