/- Contract of the reference of layer 10: Lex. Condition: the text has at most 20000 bytes. -/
import Derived.Test.YtfimejmmcfdgaaaDoorLxF
namespace Go.Proofs.YtfimejmmcfdgaaaDoor
open Go.ChangeShapes Go.WideShapes Go.ChangeAt Go.RowKit
set_option linter.unusedVariables false
set_option linter.unusedSimpArgs false
set_option maxRecDepth 100000
/-- What Lex gives back. -/
def LexR (ts : List Tok) (o : Option Nat) (x : Ending) (w' : World) : Prop := match o with
  | none => ∃ ao cap, x = .returned (.tuple #[.slice ao ts.length cap, .int .i64 0, .int .i64 0]) ∧ ts.length ≤ cap ∧ cap ≤ maxLen ∧ TRow w' ao ts
  | some p => x = .returned (.tuple #[.slice none 0 0, .int .i64 100, .int .i64 p])
theorem cell_tok_new (W : World) (n : Nat) (hn : W.heap.size = n) (a b c : Value) (t : TypeId) : ∀ j u, [a, b, c][j]? = some u → (W.alloc (.cells #[a, b, c] t)).cell? ((⟨n, 0, none⟩ : Addr).add j) = some u := by
  intro j u hj
  have hb : (W.alloc (.cells #[a, b, c] t)).heap[n]? = some (.cells #[a, b, c] t (0, 0)) := blk_new _ _ _ hn
  match j with
  | 0 => simp at hj; subst hj; exact blk_cell hb 0 _ rfl
  | 1 => simp at hj; subst hj; exact blk_cell hb 1 _ rfl
  | 2 => simp at hj; subst hj; exact blk_cell hb 2 _ rfl
  | j + 3 => simp at hj
theorem toks_le {a : Nat} {l : Bs} {ts : List Tok} {e : Option Nat} (h : Lexes a l ts e) : ts.length ≤ l.length := by
  induction h with
  | done h => simp
  | bad => simp
  | step h1 h2 h3 ih =>
    have hs := oneL_some h2
    have := congrArg List.length hs.1
    have h0 : ∀ t : Bs, t ≠ [] → 1 ≤ t.length := fun t ht => by cases t with | nil => exact absurd rfl ht | cons c t => simp
    have := h0 _ hs.2.1
    simp at *
    omega
set_option maxHeartbeats 8000000 in
theorem reflex_is (s : ByteArray) (ts : List Tok) (o : Option Nat) (w : World) (hs : s.size ≤ 20000) (hL : Hid (Lexes 0 (bl s) ts o)) :
    Calls Tryd.prog 13 #[.string s] w fun e w' => LexR ts o e w' ∧ Below w.heap.size w w' := by
  have hs3 : s.size ≤ 30000 := by omega
  have hts := toks_le hL.out
  rw [bl_len] at hts
  obtain ⟨T, hT⟩ : ∃ T, gapL false ((bl s).drop 0) = T := ⟨_, rfl⟩
  have HT := Lib.hid hT
  have HS := suf_drop (Nat.zero_le _) hT
  obtain ⟨a, ha⟩ : ∃ a, s.size - T.length = a := ⟨_, rfl⟩
  have L1 := lex_gap hL.out
  rw [show gapL false (bl s) = T from hT, bl_len, Nat.zero_add, ha] at L1
  rw [ha] at HS
  have GC := fun w => gap_any s 0 T w hs3 (Nat.zero_le _) HT
  rw [ha] at GC
  have HG : Hid (gapL false ((bl s).drop a) = (bl s).drop a) := Lib.hid (by rw [HS.2.2, ← hT]; exact gapL_idem _)
  have HL : Hid (Lexes a ((bl s).drop a) ts o) := Lib.hid (by rw [HS.2.2]; exact L1)
  have has := HS.2.1
  clear HT hT HS ha L1 hL
  have hs2 : decide ((20000 : Int) < s.size) = false := decide_eq_false (by omega)
  go_enter Tryd.func13, Tryd.ntmps13
  go_wp2_with (go_at_call 20; refine (GC _).mono ?_; rintro e' w' ⟨rfl, rfl⟩)
  go_loopw [6, 5] (fun s6 s5 wr => ∃ (a : Nat) (us vs : List Tok), a ≤ s.size ∧ s6 = .int .i64 a ∧ Hid (us ++ vs = ts) ∧ Hid (gapL false ((bl s).drop a) = (bl s).drop a) ∧ Hid (Lexes a ((bl s).drop a) vs o) ∧ (∃ v, s5 = v ∧ wr.ownsRow w.heap.size 31 3 v us.length (flatT us)) ∧ Hid (Below w.heap.size w wr)) (fun s6 _ _ => s.size - (intOf s6).toNat)
  case atStart => exact ⟨a, [], ts, has, rfl, Lib.hid rfl, HG, HL, ⟨_, rfl, World.ownsRow_made w #[] 0 (Nat.le_refl _) (by decide) rfl⟩, Lib.hid (belA (Below.refl _ _) _)⟩
  case round =>
    clear HG HL has GC
    obtain ⟨a, us, vs, has, rfl, HU, HG, HL, ⟨v, rfl, hrow⟩, HB⟩ := hrel
    have HR := Lib.hid hrow
    clear hrow
    rcases lex_inv HL.out HG.out with ⟨h1, h2, h3⟩ | ⟨h1, h2, h3, h4⟩ | ⟨k, t, r, vs', h1, h2, h3⟩
    · have hz : ¬ a < s.size := fun h => by rw [bl_drop s a h] at h1; cases h1
      subst h3
      have hu := HU.out
      rw [h2, List.append_nil] at hu
      subst hu
      obtain ⟨ao, cap, rfl, hc1, hc2, hp⟩ := trow_own HR.out
      have HP := Lib.hid hp
      clear h1 h2 hp HU HG HL HR
      have hz' : s.size ≤ a := by omega
      go_wp2
      go_ret3
      exact ⟨⟨ao, cap, rfl, hc1, hc2, HP.out⟩, HB.out⟩
    · have hlt : a < s.size := by
        rcases Nat.lt_or_ge a s.size with h | h
        · exact h
        · exfalso
          apply h1
          rw [List.drop_of_length_le (by rw [bl_len]; exact h)]
      have OC : ∀ w : World, Calls Tryd.prog 21 #[.string s, .int .i64 a] w fun e w' => e = .returned (.tuple #[.agg #[.int .i64 0, .string ⟨#[]⟩, .int .i64 0], .int .i64 0, .bool false]) ∧ Below w.heap.size w w' := fun w => one_is s a none w hs3 hlt (Lib.hid h2)
      subst h4
      clear h1 h2 h3 HU HG HL HR
      go_wp2_with (go_at_call 21; refine (OC _).mono ?_; rintro e' W1 ⟨rfl, hb1⟩; have B1 := Lib.hid (belT HB.out hb1); clear hb1)
      go_ret3
      exact ⟨rfl, belA B1.out _⟩
    · have hs1 := oneL_some h1
      have hlt : a < s.size := by
        rcases Nat.lt_or_ge a s.size with h | h
        · exact h
        · exfalso
          rw [List.drop_of_length_le (by rw [bl_len]; exact h)] at h1
          simp [oneL] at h1
      have hl1 := congrArg List.length hs1.1
      rw [List.length_drop, bl_len, List.length_append] at hl1
      have ht0 : 1 ≤ t.length := by cases t with | nil => exact absurd rfl hs1.2.1 | cons c t => simp
      obtain ⟨z, hz⟩ : ∃ z, s.size - r.length = z := ⟨_, rfl⟩
      have hza : z = a + t.length := by omega
      have hzd : (bl s).drop z = r := by
        have h := congrArg (List.drop t.length) hs1.1
        rw [List.drop_left, List.drop_drop] at h
        rw [hza]
        exact h
      have hzs : z ≤ s.size := by omega
      have OC : ∀ w : World, Calls Tryd.prog 21 #[.string s, .int .i64 a] w fun e w' => e = .returned (.tuple #[.agg #[.int .i64 k, .string (bsA t), .int .i64 a], .int .i64 z, .bool true]) ∧ Below w.heap.size w w' := fun w => by rw [← hz]; exact one_is s a (some (k, t, r)) w hs3 hlt (Lib.hid h1)
      obtain ⟨T, hT⟩ : ∃ T, gapL false ((bl s).drop z) = T := ⟨_, rfl⟩
      have HS := suf_drop hzs hT
      obtain ⟨a', ha'⟩ : ∃ a', s.size - T.length = a' := ⟨_, rfl⟩
      have GC : ∀ w : World, Calls Tryd.prog 20 #[.string s, .int .i64 z] w fun e w' => e = .returned (.int .i64 a') ∧ w = w' := fun w => by rw [← ha']; exact gap_any s z T w hs3 hzs (Lib.hid hT)
      rw [ha'] at HS
      have HG2 : Hid (gapL false ((bl s).drop a') = (bl s).drop a') := Lib.hid (by rw [HS.2.2, ← hT]; exact gapL_idem _)
      have HL2 : Hid (Lexes a' ((bl s).drop a') vs' o) := Lib.hid (by
        rw [← hza, ← hzd] at h3
        have h := lex_gap h3
        rw [hT, List.length_drop, bl_len, show z + (s.size - z - T.length) = a' by omega] at h
        rw [HS.2.2]
        exact h)
      have HU2 : Hid ((us ++ [(k, t, a)]) ++ vs' = ts) := Lib.hid (by rw [List.append_assoc, ← HU.out, h2]; rfl)
      have ha1 : a' ≤ s.size := HS.2.1
      have haa : a < a' := by omega
      have hl : us.length + 1 ≤ 20000 := by
        have h := congrArg List.length HU2.out
        rw [List.length_append, List.length_append] at h
        simp only [List.length_cons, List.length_nil] at h
        omega
      clear HU HG HL h1 h2 h3 hs1 hl1 ht0 hz hza hzd hT HS ha'
      have mlen : maxLen = 9223372036854775807 := rfl
      obtain ⟨i0, hi, hz0, hz1', hz2'⟩ := info_parts infoT
      go_wp2_with (first | (go_at_call 21; refine (OC _).mono ?_; rintro e' W1 ⟨rfl, hb1⟩; have B1 := Lib.hid (belT HB.out hb1); have R1 := Lib.hid (rowK HR.out hb1); clear hb1) | (at_builtin; refine wpList_append_own _ rfl _ _ 24 rfl w.heap.size 31 i0 (.agg #[.int .i64 0, .string ⟨#[]⟩, .int .i64 0]) 3 32 Tryd.underlying24 hi hz0 hz1' hz2' rfl (by decide) _ _ _ rfl ((R1.out.alloc _).alloc _) ⟨W1.heap.size + 1, 0, none⟩ 1 1 [.int .i64 k, .string (bsA t), .int .i64 a] rfl rfl (cell_tok_new _ _ (by simp) _ _ _ _) (by simp [Value.oneCell']) (by omega) (by omega) (Nat.le_trans B1.out.size (by simp; omega)) ?_; intro v' wb hown' hgrow _; have HO := Lib.hid hown'; have hBb := Lib.hid ((belA (belA B1.out _) _).grown hgrow (Nat.le_trans B1.out.size (by simp; omega)) (row_base R1.out)); clear hown' hgrow) | (go_at_call 20; refine (GC _).mono ?_; rintro e' w' ⟨rfl, rfl⟩))
      exact ⟨⟨a', us ++ [(k, t, a)], vs', ha1, rfl, HU2, HG2, HL2, ⟨_, rfl, by rw [List.length_append, flatT_append]; exact HO.out⟩, hBb⟩, by simp [intOf]; omega⟩
end Go.Proofs.YtfimejmmcfdgaaaDoor
