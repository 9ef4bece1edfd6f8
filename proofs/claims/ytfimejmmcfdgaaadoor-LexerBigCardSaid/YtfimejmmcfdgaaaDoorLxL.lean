/- Contract of the landed lexer: Lex. Conditions: the table of classes lies as the program's text lays it (Tab). -/
import Derived.Test.YtfimejmmcfdgaaaDoorLxN
namespace Go.Proofs.YtfimejmmcfdgaaaDoor
open Go.ChangeShapes Go.WideShapes Go.ChangeAt Go.RowKit
set_option linter.unusedVariables false
set_option linter.unusedSimpArgs false
set_option maxRecDepth 100000
/-- What measure says of the front of a text. -/
def Meas (s : ByteArray) (a : Nat) (k : Int) (z : Nat) : Prop :=
  (k = 0 ∧ z = a ∧ oneL ((bl s).drop a) = none) ∨ (k = 1 ∧ a < z ∧ oneL ((bl s).drop a) = some (1, bl (s.extract a z), (bl s).drop z)) ∨ (k = 3 ∧ a < z ∧ oneL ((bl s).drop a) = some (3, bl (s.extract a z), (bl s).drop z)) ∨ (k = 2 ∧ a < z ∧ oneL ((bl s).drop a) = if (numL (bl (s.extract a z)) && bare (bl (s.extract z s.size))) = true then some (2, bl (s.extract a z), (bl s).drop z) else none)
theorem bl_rest (s : ByteArray) (z : Nat) : bl (s.extract z s.size) = (bl s).drop z := by
  rw [bl_sub, List.take_of_length_le (by rw [List.length_drop, bl_len]; omega)]
theorem meas_is (s : ByteArray) (a : Nat) (hs : s.size ≤ 30000) (ha : a < s.size) :
    ∃ (k : Int) (z : Nat), (∀ w : World, Tab w → Calls Tryd.prog 18 #[.string s, .int .i64 a] w fun e w' => e = .returned (.tuple #[.int .i64 k, .int .i64 z]) ∧ w = w') ∧ z ≤ s.size ∧ Meas s a k z := by
  have hd := bl_drop s a ha
  have hk8 : kd s[a] ≤ 7 := by unfold kd; (repeat' split) <;> omega
  by_cases h1 : kd s[a] = 1
  · obtain ⟨T, hT⟩ : ∃ T, ((bl s).drop (a + 1)).dropWhile isW = T := ⟨_, rfl⟩
    obtain ⟨z, hz⟩ : ∃ z, s.size - T.length = z := ⟨_, rfl⟩
    have HE := dw_end (by omega) hT
    rw [hz] at HE
    refine ⟨1, z, fun w h => meas_word s a w h hs ha h1 z T (Lib.hid hT) (Lib.hid hz), HE.2.1, Or.inr (Or.inl ⟨rfl, by omega, ?_⟩)⟩
    have hw : isW s[a] = true := by simp [isW, h1]
    rw [hd]
    simp only [oneL]
    rw [if_pos h1, bl_sub, hd, HE.2.2.2, show z - a = (z - (a + 1)) + 1 by omega, List.take_succ_cons, HE.2.2.1, hT]
  by_cases h4 : kd s[a] = 4
  · refine ⟨3, a + 1, fun w h => by have := meas_sign s a w h hs ha h4; simpa using this, by omega, Or.inr (Or.inr (Or.inl ⟨rfl, by omega, ?_⟩))⟩
    rw [hd]
    simp only [oneL]
    rw [if_neg h1, if_pos h4, bl_sub, hd, show a + 1 - a = 0 + 1 by omega, List.take_succ_cons, List.take_zero]
  by_cases h2 : kd s[a] = 2 ∨ kd s[a] = 7
  · obtain ⟨T, hT⟩ : ∃ T, ((bl s).drop (a + 1)).dropWhile isD = T := ⟨_, rfl⟩
    obtain ⟨z, hz⟩ : ∃ z, s.size - T.length = z := ⟨_, rfl⟩
    have HE := dw_end (by omega) hT
    rw [hz] at HE
    refine ⟨2, z, fun w h => by rcases h2 with h2 | h2; exact meas_num2 s a w h hs ha h2 z T (Lib.hid hT) (Lib.hid hz); exact meas_num7 s a w h hs ha h2 z T (Lib.hid hT) (Lib.hid hz), HE.2.1, Or.inr (Or.inr (Or.inr ⟨rfl, by omega, ?_⟩))⟩
    rw [bl_rest, hd]
    simp only [oneL]
    rw [if_neg h1, if_neg h4, if_pos h2, bl_sub, hd, HE.2.2.2, show z - a = (z - (a + 1)) + 1 by omega, List.take_succ_cons, HE.2.2.1, hT]
  have hn : oneL ((bl s).drop a) = none := by
    rw [hd]
    simp only [oneL]
    rw [if_neg h1, if_neg h4, if_neg h2]
  have h8 : kd s[a] = 0 ∨ kd s[a] = 3 ∨ kd s[a] = 5 ∨ kd s[a] = 6 := by omega
  refine ⟨0, a, fun w h => ?_, by omega, Or.inl ⟨rfl, rfl, hn⟩⟩
  rcases h8 with h8 | h8 | h8 | h8
  · exact meas_bad0 s a w h hs ha h8
  · exact meas_bad3 s a w h hs ha h8
  · exact meas_bad5 s a w h hs ha h8
  · exact meas_bad6 s a w h hs ha h8
set_option maxHeartbeats 8000000 in
theorem lex_is (s : ByteArray) (ts : List Tok) (o : Option Nat) (w : World) (hTab : Tab w) (hs : s.size ≤ 20000) (hL : Hid (Lexes 0 (bl s) ts o)) :
    Calls Tryd.prog 12 #[.string s] w fun e w' => LexR ts o e w' ∧ Below w.heap.size w w' := by
  have hs3 : s.size ≤ 30000 := by omega
  have hts := toks_le hL.out
  rw [bl_len] at hts
  obtain ⟨T, hT⟩ : ∃ T, gapL false ((bl s).drop 0) = T := ⟨_, rfl⟩
  have HT := Lib.hid hT
  have HS := suf_drop (Nat.zero_le _) hT
  obtain ⟨a, ha⟩ : ∃ a, s.size - T.length = a := ⟨_, rfl⟩
  have L1 := lex_gap hL.out
  rw [show gapL false (bl s) = T from hT, bl_len, Nat.zero_add, ha] at L1
  rw [ha] at HS
  have GC := fun w h => skip_any s 0 T w h hs3 (Nat.zero_le _) HT
  rw [ha] at GC
  have HG : Hid (gapL false ((bl s).drop a) = (bl s).drop a) := Lib.hid (by rw [HS.2.2, ← hT]; exact gapL_idem _)
  have HL : Hid (Lexes a ((bl s).drop a) ts o) := Lib.hid (by rw [HS.2.2]; exact L1)
  have has := HS.2.1
  clear HT hT HS ha L1 hL
  have hs2 : decide ((20000 : Int) < s.size) = false := decide_eq_false (by omega)
  have HTab := Lib.hid hTab
  clear hTab
  go_enter Tryd.func12, Tryd.ntmps12
  go_wp2_with (go_at_call 17; refine (GC _ HTab.out).mono ?_; rintro e' w' ⟨rfl, rfl⟩)
  go_loopw [6, 5] (fun s6 s5 wr => ∃ (a : Nat) (us vs : List Tok), a ≤ s.size ∧ s6 = .int .i64 a ∧ Hid (us ++ vs = ts) ∧ Hid (gapL false ((bl s).drop a) = (bl s).drop a) ∧ Hid (Lexes a ((bl s).drop a) vs o) ∧ (∃ v, s5 = v ∧ wr.ownsRow w.heap.size 31 3 v us.length (flatT us)) ∧ Hid (Below w.heap.size w wr)) (fun s6 _ _ => s.size - (intOf s6).toNat)
  case atStart => exact ⟨a, [], ts, has, rfl, Lib.hid rfl, HG, HL, ⟨_, rfl, World.ownsRow_nil _ _ _ _⟩, Lib.hid (Below.refl _ _)⟩
  case round =>
    clear HG HL has GC
    rename_i wr
    obtain ⟨a, us, vs, has, rfl, HU, HG, HL, ⟨v, rfl, hrow⟩, HB⟩ := hrel
    have HR := Lib.hid hrow
    have HW : Hid (Tab wr) := Lib.hid (HTab.out.below HB.out)
    clear hrow
    by_cases hz : a < s.size
    rotate_left
    · have h1 : (bl s).drop a = [] := List.drop_of_length_le (by rw [bl_len]; omega)
      rcases lex_inv HL.out HG.out with ⟨_, h2, h3⟩ | ⟨h2, _⟩ | ⟨k, t, r, vs', h2, _⟩
      rotate_left
      · exact absurd h1 h2
      · rw [h1] at h2; simp [oneL] at h2
      subst h3
      have hu := HU.out
      rw [h2, List.append_nil] at hu
      subst hu
      obtain ⟨ao, cap, rfl, hc1, hc2, hp⟩ := trow_own HR.out
      have HP := Lib.hid hp
      clear h1 h2 hp HU HG HL HR
      have hz' : s.size ≤ a := by omega
      go_wp2
      go_ret3
      exact ⟨⟨ao, cap, rfl, hc1, hc2, HP.out⟩, HB.out⟩
    obtain ⟨k, z, MC, hzs, hM⟩ := meas_is s a hs3 hz
    by_cases hN : oneL ((bl s).drop a) = none
    · rcases lex_inv HL.out HG.out with ⟨h2, _⟩ | ⟨h1, h2, h3, h4⟩ | ⟨k, t, r, vs', h2, _⟩
      · rw [bl_drop s a hz] at h2; cases h2
      rotate_left
      · rw [hN] at h2; cases h2
      subst h4
      have hza : a ≤ z := by rcases hM with h | h | h | h <;> omega
      have hk : k = 0 ∨ (k = 2 ∧ a < z ∧ (numL (bl (s.extract a z)) && bare (bl (s.extract z s.size))) = false) := by
        rcases hM with h | h | h | h
        · exact Or.inl h.1
        · rw [hN] at h; cases h.2.2
        · rw [hN] at h; cases h.2.2
        · refine Or.inr ⟨h.1, h.2.1, ?_⟩
          have h5 := h.2.2
          rw [hN] at h5
          split at h5
          · cases h5
          · exact Bool.eq_false_iff.2 ‹¬ _›
      clear hM h1 h2 h3 hN HU HG HL HR
      rcases hk with rfl | ⟨rfl, haz, hn⟩
      · go_wp2_with (go_at_call 18; refine (MC _ HW.out).mono ?_; rintro e' w' ⟨rfl, rfl⟩)
        go_ret3
        exact ⟨rfl, HB.out⟩
      · have NC : ∀ w : World, Tab w → Calls Tryd.prog 19 #[.string (s.extract a z), .string (s.extract z s.size)] w fun e w' => e = .returned (.bool false) ∧ w = w' := fun w h => by rw [← hn]; exact isnum_any _ _ w h (by rw [ByteArray.size_extract]; omega) (by rw [ByteArray.size_extract]; omega) (by rw [ByteArray.size_extract]; omega)
        clear hn
        go_wp2_with (first | (go_at_call 18; refine (MC _ HW.out).mono ?_; rintro e' w' ⟨rfl, rfl⟩) | (go_at_call 19; refine (NC _ HW.out).mono ?_; rintro e' w' ⟨rfl, rfl⟩))
        go_ret3
        exact ⟨rfl, HB.out⟩
    · rcases lex_inv HL.out HG.out with ⟨h2, _⟩ | ⟨_, h2, _⟩ | ⟨k', t, r, vs', h1, h2, h3⟩
      · rw [bl_drop s a hz] at h2; cases h2
      · exact absurd h2 hN
      have hk : (k = 1 ∨ k = 3 ∨ (k = 2 ∧ (numL (bl (s.extract a z)) && bare (bl (s.extract z s.size))) = true)) ∧ a < z ∧ (k' : Int) = k ∧ t = bl (s.extract a z) ∧ r = (bl s).drop z := by
        rcases hM with h | h | h | h
        · exact absurd h.2.2 hN
        · rw [h1] at h; obtain ⟨rfl, h5, h6⟩ := h; cases h6; exact ⟨Or.inl rfl, h5, rfl, rfl, rfl⟩
        · rw [h1] at h; obtain ⟨rfl, h5, h6⟩ := h; cases h6; exact ⟨Or.inr (Or.inl rfl), h5, rfl, rfl, rfl⟩
        · rw [h1] at h
          obtain ⟨rfl, h5, h6⟩ := h
          split at h6
          · rename_i h7; cases h6; exact ⟨Or.inr (Or.inr ⟨rfl, h7⟩), h5, rfl, rfl, rfl⟩
          · cases h6
      obtain ⟨hk, haz, hkk, ht, hr⟩ := hk
      have haz2 : a ≤ z := by omega
      have hx : Hid (s.extract a z = bsA t) := Lib.hid (by rw [ht, bsA_bl])
      have hza : z = a + t.length := by rw [ht, bl_len, ByteArray.size_extract]; omega
      obtain ⟨T, hT⟩ : ∃ T, gapL false ((bl s).drop z) = T := ⟨_, rfl⟩
      have HS := suf_drop hzs hT
      obtain ⟨a', ha'⟩ : ∃ a', s.size - T.length = a' := ⟨_, rfl⟩
      have GC : ∀ w : World, Tab w → Calls Tryd.prog 17 #[.string s, .int .i64 z] w fun e w' => e = .returned (.int .i64 a') ∧ w = w' := fun w h => by rw [← ha']; exact skip_any s z T w h hs3 hzs (Lib.hid hT)
      rw [ha'] at HS
      have HG2 : Hid (gapL false ((bl s).drop a') = (bl s).drop a') := Lib.hid (by rw [HS.2.2, ← hT]; exact gapL_idem _)
      have HL2 : Hid (Lexes a' ((bl s).drop a') vs' o) := Lib.hid (by
        rw [← hza, hr] at h3
        have h := lex_gap h3
        rw [hT, List.length_drop, bl_len, show z + (s.size - z - T.length) = a' by omega] at h
        rw [HS.2.2]
        exact h)
      have HU2 : Hid ((us ++ [(k', t, a)]) ++ vs' = ts) := Lib.hid (by rw [List.append_assoc, ← HU.out, h2]; rfl)
      have ha1 : a' ≤ s.size := HS.2.1
      have haa : a < a' := by omega
      have hl : us.length + 1 ≤ 20000 := by
        have h := congrArg List.length HU2.out
        rw [List.length_append, List.length_append] at h
        simp only [List.length_cons, List.length_nil] at h
        omega
      have HK := Lib.hid hkk
      clear hM hN HU HG HL h1 h2 h3 ht hr hza hT HS ha' hkk
      have mlen : maxLen = 9223372036854775807 := rfl
      obtain ⟨i0, hi, hz0, hz1', hz2'⟩ := info_parts infoT
      rcases hk with rfl | rfl | ⟨rfl, hn⟩
      rotate_left 2
      · have NC : ∀ w : World, Tab w → Calls Tryd.prog 19 #[.string (s.extract a z), .string (s.extract z s.size)] w fun e w' => e = .returned (.bool true) ∧ w = w' := fun w h => by rw [← hn]; exact isnum_any _ _ w h (by rw [ByteArray.size_extract]; omega) (by rw [ByteArray.size_extract]; omega) (by rw [ByteArray.size_extract]; omega)
        clear hn
        go_wp2_with (first | (go_at_call 18; refine (MC _ HW.out).mono ?_; rintro e' w' ⟨rfl, rfl⟩) | (go_at_call 19; refine (NC _ HW.out).mono ?_; rintro e' w' ⟨rfl, rfl⟩) | (at_builtin; refine wpList_append_own _ rfl _ _ 24 rfl w.heap.size 31 i0 (.agg #[.int .i64 0, .string ⟨#[]⟩, .int .i64 0]) 3 32 Tryd.underlying24 hi hz0 hz1' hz2' rfl (by decide) _ _ _ rfl (HR.out.alloc _) ⟨wr.heap.size, 0, none⟩ 1 1 [.int .i64 2, .string (s.extract a z), .int .i64 a] rfl rfl (cell_tok_new _ _ rfl _ _ _ _) (by simp [Value.oneCell']) (by omega) (by omega) (Nat.le_trans HB.out.size (by simp)) ?_; intro v' wb hown' hgrow _; have HO := Lib.hid hown'; have hBb := Lib.hid ((belA HB.out _).grown hgrow (Nat.le_trans HB.out.size (by simp)) (row_base HR.out)); clear hown' hgrow) | (go_at_call 17; refine (GC _ (HTab.out.below hBb.out)).mono ?_; rintro e' w' ⟨rfl, rfl⟩))
        exact ⟨⟨a', us ++ [(k', t, a)], vs', ha1, rfl, HU2, HG2, HL2, ⟨_, rfl, by rw [List.length_append, flatT_append, flatT, flatT, ← hx.out, HK.out]; exact HO.out⟩, hBb⟩, by simp [intOf]; omega⟩
      · go_wp2_with (first | (go_at_call 18; refine (MC _ HW.out).mono ?_; rintro e' w' ⟨rfl, rfl⟩) | (at_builtin; refine wpList_append_own _ rfl _ _ 24 rfl w.heap.size 31 i0 (.agg #[.int .i64 0, .string ⟨#[]⟩, .int .i64 0]) 3 32 Tryd.underlying24 hi hz0 hz1' hz2' rfl (by decide) _ _ _ rfl (HR.out.alloc _) ⟨wr.heap.size, 0, none⟩ 1 1 [.int .i64 1, .string (s.extract a z), .int .i64 a] rfl rfl (cell_tok_new _ _ rfl _ _ _ _) (by simp [Value.oneCell']) (by omega) (by omega) (Nat.le_trans HB.out.size (by simp)) ?_; intro v' wb hown' hgrow _; have HO := Lib.hid hown'; have hBb := Lib.hid ((belA HB.out _).grown hgrow (Nat.le_trans HB.out.size (by simp)) (row_base HR.out)); clear hown' hgrow) | (go_at_call 17; refine (GC _ (HTab.out.below hBb.out)).mono ?_; rintro e' w' ⟨rfl, rfl⟩))
        exact ⟨⟨a', us ++ [(k', t, a)], vs', ha1, rfl, HU2, HG2, HL2, ⟨_, rfl, by rw [List.length_append, flatT_append, flatT, flatT, ← hx.out, HK.out]; exact HO.out⟩, hBb⟩, by simp [intOf]; omega⟩
      · go_wp2_with (first | (go_at_call 18; refine (MC _ HW.out).mono ?_; rintro e' w' ⟨rfl, rfl⟩) | (at_builtin; refine wpList_append_own _ rfl _ _ 24 rfl w.heap.size 31 i0 (.agg #[.int .i64 0, .string ⟨#[]⟩, .int .i64 0]) 3 32 Tryd.underlying24 hi hz0 hz1' hz2' rfl (by decide) _ _ _ rfl (HR.out.alloc _) ⟨wr.heap.size, 0, none⟩ 1 1 [.int .i64 3, .string (s.extract a z), .int .i64 a] rfl rfl (cell_tok_new _ _ rfl _ _ _ _) (by simp [Value.oneCell']) (by omega) (by omega) (Nat.le_trans HB.out.size (by simp)) ?_; intro v' wb hown' hgrow _; have HO := Lib.hid hown'; have hBb := Lib.hid ((belA HB.out _).grown hgrow (Nat.le_trans HB.out.size (by simp)) (row_base HR.out)); clear hown' hgrow) | (go_at_call 17; refine (GC _ (HTab.out.below hBb.out)).mono ?_; rintro e' w' ⟨rfl, rfl⟩))
        exact ⟨⟨a', us ++ [(k', t, a)], vs', ha1, rfl, HU2, HG2, HL2, ⟨_, rfl, by rw [List.length_append, flatT_append, flatT, flatT, ← hx.out, HK.out]; exact HO.out⟩, hBb⟩, by simp [intOf]; omega⟩
theorem lex_big (s : ByteArray) (w : World) (hs : 20000 < s.size) (hm : s.size ≤ maxLen) :
    Calls Tryd.prog 12 #[.string s] w fun e w' => e = .returned (.tuple #[.slice none 0 0, .int .i64 2, .int .i64 0]) ∧ Below w.heap.size w w' := by
  unfold maxLen at hm
  have h2 : (20000 : Int) < s.size := by omega
  go_enter Tryd.func12, Tryd.ntmps12
  go_wp2
  go_ret3
  exact ⟨rfl, Below.refl _ _⟩
end Go.Proofs.YtfimejmmcfdgaaaDoor
