/- Tokens in memory; the reference's one in one contract; the relation's inversions. Condition: the text has at most 30000 bytes. -/
import Derived.Test.YtfimejmmcfdgaaaDoorLxE
import Derived.Laws.AppendOwn
namespace Go.Proofs.YtfimejmmcfdgaaaDoor
open Go.ChangeShapes Go.WideShapes Go.ChangeAt Go.RowKit
set_option linter.unusedVariables false
set_option linter.unusedSimpArgs false
set_option maxRecDepth 100000
def bsA (t : Bs) : ByteArray := ⟨t.toArray⟩
theorem bl_bsA (t : Bs) : bl (bsA t) = t := by unfold bl bsA; simp
theorem bsA_bl (s : ByteArray) : bsA (bl s) = s := by unfold bl bsA; simp
theorem bsA_size (t : Bs) : (bsA t).size = t.length := by rw [← bl_len, bl_bsA]
theorem ext_bsA (s : ByteArray) (a z : Nat) {t : Bs} (h : ((bl s).drop a).take (z - a) = t) : s.extract a z = bsA t := by
  rw [← bsA_bl (s.extract a z), bl_sub, h]
def flatT : List Tok → List Value
  | [] => []
  | x :: l => .int .i64 x.1 :: .string (bsA x.2.1) :: .int .i64 x.2.2 :: flatT l
theorem flatT_length (l : List Tok) : (flatT l).length = l.length * 3 := by
  induction l with
  | nil => rfl
  | cons q l ih => simp [flatT, ih]; omega
theorem flatT_append (l m : List Tok) : flatT (l ++ m) = flatT l ++ flatT m := by
  induction l with
  | nil => rfl
  | cons q l ih => simp [flatT, ih]
theorem flatT_get (l : List Tok) (i : Nat) (hi : i < l.length) : (flatT l)[i * 3]? = some (.int .i64 (l.getD i tok0).1) ∧ (flatT l)[i * 3 + 1]? = some (.string (bsA (l.getD i tok0).2.1)) ∧ (flatT l)[i * 3 + 2]? = some (.int .i64 (l.getD i tok0).2.2) := by
  induction l generalizing i with
  | nil => simp at hi
  | cons x l ih =>
    cases i with
    | zero => simp [flatT]
    | succ i =>
      have := ih i (by simpa using hi)
      rw [show (i + 1) * 3 = i * 3 + 3 by omega, show i * 3 + 3 + 1 = i * 3 + 1 + 3 by omega, show i * 3 + 3 + 2 = i * 3 + 2 + 3 by omega]
      simpa [flatT] using this
/-- A row of tokens. -/
def TRow (w : World) (ao : Option Addr) (l : List Tok) : Prop := ∀ i, i < l.length → ∃ b o, ao = some ⟨b, o, none⟩ ∧ w.cell? ⟨b, o + i * 3, none⟩ = some (.int .i64 (l.getD i tok0).1) ∧ w.cell? ⟨b, o + i * 3 + 1, none⟩ = some (.string (bsA (l.getD i tok0).2.1)) ∧ w.cell? ⟨b, o + i * 3 + 2, none⟩ = some (.int .i64 (l.getD i tok0).2.2)
theorem trow_below {w w' : World} {ao : Option Addr} {l : List Tok} (h : TRow w ao l) (hb : Below w.heap.size w w') : TRow w' ao l := fun i hi => by
  obtain ⟨b, o, rfl, c1, c2, c3⟩ := h i hi
  exact ⟨b, o, rfl, (hb.cell (World.block_lt_of_cell? w _ c1)).trans c1, (hb.cell (World.block_lt_of_cell? w _ c2)).trans c2, (hb.cell (World.block_lt_of_cell? w _ c3)).trans c3⟩
theorem trow_alloc {w : World} {ao : Option Addr} {l : List Tok} (h : TRow w ao l) (x : Obj) : TRow (w.alloc x) ao l := trow_below h (belA (Below.refl _ _) x)
theorem trow_nil (w : World) (ao : Option Addr) : TRow w ao [] := fun i hi => absurd hi (by simp)
theorem own_cellAt {w : World} {base : Nat} {e : TypeId} {size n g cap : Nat} {xs : List Value} (h : w.ownsRow base e size (.slice (some ⟨g, 0, none⟩) n cap) n xs) (j : Nat) (u : Value) (hj : xs[j]? = some u) : w.cell? ⟨g, j, none⟩ = some u := by
  have := h.cells (g := g) rfl j u hj
  by_cases h0 : j = 0
  · subst h0; simpa [Addr.add] using this
  · simpa [Addr.add, h0] using this
theorem trow_own {w : World} {base : Nat} {e : TypeId} {v : Value} {l : List Tok} (h : w.ownsRow base e 3 v l.length (flatT l)) : ∃ ao cap, v = .slice ao l.length cap ∧ l.length ≤ cap ∧ cap ≤ maxLen ∧ TRow w ao l := by
  have h0 := h
  obtain ⟨_, ⟨rfl, hn⟩ | ⟨g, cap, cur, rfl, _, _, hc1, hc2, _⟩⟩ := h
  · have : l = [] := List.length_eq_zero_iff.1 hn
    subst this
    exact ⟨none, 0, rfl, by simp, by simp, trow_nil _ _⟩
  · refine ⟨_, cap, rfl, hc1, hc2, fun i hi => ⟨g, 0, rfl, ?_, ?_, ?_⟩⟩
    · rw [Nat.zero_add]; exact own_cellAt h0 _ _ (flatT_get l i hi).1
    · rw [Nat.zero_add]; exact own_cellAt h0 _ _ (flatT_get l i hi).2.1
    · rw [Nat.zero_add]; exact own_cellAt h0 _ _ (flatT_get l i hi).2.2
theorem grownB {w w' : World} (h : Below w.heap.size w w') : w.grownBy w' none := ⟨h.os, h.tape, h.output, h.size, fun k hk _ => h.block k hk⟩
theorem rowK {W W' : World} {base : Nat} {e : TypeId} {n k : Nat} {v : Value} {xs : List Value} (h : W.ownsRow base e n v k xs) (hb : Below W.heap.size W W') : W'.ownsRow base e n v k xs := h.kept (grownB hb) (by cases v.ownBlock <;> simp)
theorem row_base {w : World} {base : Nat} {e : TypeId} {n k : Nat} {v : Value} {xs : List Value} (h : w.ownsRow base e n v k xs) : ∀ g, v.ownBlock = some g → base ≤ g := fun g e' => (h.lt g e').1
theorem infoT : (Tryd.prog.info? 31).map (fun i => (i.zero, i.size, i.bytes)) = some (some (.agg #[.int .i64 0, .string ⟨#[]⟩, .int .i64 0]), 3, 32) := by kernel_rfl
/-- What one gives back. -/
def oneV (s : ByteArray) (a : Nat) : Option (Nat × Bs × Bs) → Value
  | none => .tuple #[.agg #[.int .i64 0, .string ⟨#[]⟩, .int .i64 0], .int .i64 0, .bool false]
  | some (k, t, r) => .tuple #[.agg #[.int .i64 k, .string (bsA t), .int .i64 a], .int .i64 (s.size - r.length : Nat), .bool true]
theorem one_is (s : ByteArray) (a : Nat) (R : Option (Nat × Bs × Bs)) (w : World) (hs : s.size ≤ 30000) (ha : a < s.size) (hR : Hid (oneL ((bl s).drop a) = R)) :
    Calls Tryd.prog 21 #[.string s, .int .i64 a] w fun e w' => e = .returned (oneV s a R) ∧ Below w.heap.size w w' := by
  have h := hR.out
  have hd := bl_drop s a ha
  rw [hd] at h
  simp only [oneL] at h
  by_cases h1 : kd s[a] = 1
  · rw [if_pos h1] at h
    subst h
    have hw : isW s[a] = true := by simp [isW, h1]
    have hT : ((bl s).drop a).dropWhile isW = ((bl s).drop (a + 1)).dropWhile isW := by rw [hd, List.dropWhile_cons, if_pos hw]
    have hx : s.extract a (s.size - (((bl s).drop (a + 1)).dropWhile isW).length) = bsA (s[a] :: ((bl s).drop (a + 1)).takeWhile isW) := by
      refine ext_bsA s _ _ ?_
      have := (dw_end (by omega) hT).2.2.2
      rw [← this, hd, List.takeWhile_cons, if_pos hw]
    have := one_word s a w hs ha h1 _ _ (Lib.hid hT) (Lib.hid rfl)
    rw [hx] at this
    exact this
  rw [if_neg h1] at h
  by_cases h4 : kd s[a] = 4
  · rw [if_pos h4] at h
    subst h
    have hx : s.extract a (a + 1) = bsA [s[a]] := ext_bsA s _ _ (by rw [hd, show a + 1 - a = 1 by omega]; rfl)
    have := one_sign s a w hs ha h4
    rw [hx] at this
    simp only [oneV, List.length_drop, bl_len]
    rw [show s.size - (s.size - (a + 1)) = a + 1 by omega]
    exact this
  rw [if_neg h4] at h
  by_cases h2 : kd s[a] = 2 ∨ kd s[a] = 7
  · rw [if_pos h2] at h
    obtain ⟨T, hT⟩ : ∃ T, ((bl s).drop (a + 1)).dropWhile isD = T := ⟨_, rfl⟩
    obtain ⟨z, hz⟩ : ∃ z, s.size - T.length = z := ⟨_, rfl⟩
    have HE := dw_end (by omega) hT
    rw [hz] at HE
    have hx : s.extract a z = bsA (s[a] :: ((bl s).drop (a + 1)).takeWhile isD) := by
      refine ext_bsA s _ _ ?_
      rw [HE.2.2.2, hd, show z - a = (z - (a + 1)) + 1 by omega, List.take_succ_cons]
    have hn : numL (bl (s.extract a z)) = numL (s[a] :: ((bl s).drop (a + 1)).takeWhile isD) := by rw [hx, bl_bsA]
    rw [hT] at h
    by_cases hN : numL (s[a] :: ((bl s).drop (a + 1)).takeWhile isD) = true
    rotate_left
    · rw [if_neg (by simp [hN])] at h
      subst h
      have hn' : numL (bl (s.extract a z)) = false := by rw [hn]; simpa using hN
      rcases h2 with h2 | h2
      · exact one_num2_bad s a w hs ha h2 z T (Lib.hid hT) (Lib.hid hz) (Lib.hid hn')
      · exact one_num7_bad s a w hs ha h2 z T (Lib.hid hT) (Lib.hid hz) (Lib.hid hn')
    have hn' : numL (bl (s.extract a z)) = true := by rw [hn]; exact hN
    by_cases hze : z = s.size
    · have hT0 : T = [] := by
        have := HE.2.2.1
        rw [hze, bl_end] at this
        exact this.symm
      rw [if_pos (by rw [hN, hT0]; rfl)] at h
      subst h
      have goalV : oneV s a (some (2, s[a] :: ((bl s).drop (a + 1)).takeWhile isD, T)) = .tuple #[.agg #[.int .i64 (2 : Nat), .string (s.extract a z), .int .i64 a], .int .i64 z, .bool true] := by simp only [oneV, hx, hz]
      rw [goalV]
      rcases h2 with h2 | h2
      · exact one_num2_end s a w hs ha h2 z T (Lib.hid hT) (Lib.hid hz) (Lib.hid hn') hze
      · exact one_num7_end s a w hs ha h2 z T (Lib.hid hT) (Lib.hid hz) (Lib.hid hn') hze
    have hzl : z < s.size := by have := HE.2.1; omega
    have hTz : T = s[z] :: (bl s).drop (z + 1) := by rw [← HE.2.2.1, bl_drop s z hzl]
    by_cases hk : kd s[z] = 1 ∨ kd s[z] = 3
    · rw [if_neg (by rw [hN, hTz]; simp [bare]; omega)] at h
      subst h
      rcases h2 with h2 | h2 <;> rcases hk with hk | hk
      · exact one_num2_w1 s a w hs ha h2 z T (Lib.hid hT) (Lib.hid hz) (Lib.hid hn') hzl hk
      · exact one_num2_w3 s a w hs ha h2 z T (Lib.hid hT) (Lib.hid hz) (Lib.hid hn') hzl hk
      · exact one_num7_w1 s a w hs ha h2 z T (Lib.hid hT) (Lib.hid hz) (Lib.hid hn') hzl hk
      · exact one_num7_w3 s a w hs ha h2 z T (Lib.hid hT) (Lib.hid hz) (Lib.hid hn') hzl hk
    · rw [if_pos (by rw [hN, hTz]; simp [bare]; omega)] at h
      subst h
      have goalV : oneV s a (some (2, s[a] :: ((bl s).drop (a + 1)).takeWhile isD, T)) = .tuple #[.agg #[.int .i64 (2 : Nat), .string (s.extract a z), .int .i64 a], .int .i64 z, .bool true] := by simp only [oneV, hx, hz]
      rw [goalV]
      rcases h2 with h2 | h2
      · exact one_num2_ok s a w hs ha h2 z T (Lib.hid hT) (Lib.hid hz) (Lib.hid hn') hzl ⟨by omega, by omega⟩
      · exact one_num7_ok s a w hs ha h2 z T (Lib.hid hT) (Lib.hid hz) (Lib.hid hn') hzl ⟨by omega, by omega⟩
  rw [if_neg h2] at h
  subst h
  have h8 : kd s[a] = 0 ∨ kd s[a] = 3 ∨ kd s[a] = 5 ∨ kd s[a] = 6 := by
    have : kd s[a] ≤ 7 := by unfold kd; (repeat' split) <;> omega
    omega
  rcases h8 with h8 | h8 | h8 | h8
  · exact one_bad0 s a w hs ha h8
  · exact one_bad3 s a w hs ha h8
  · exact one_bad5 s a w hs ha h8
  · exact one_bad6 s a w hs ha h8
theorem lex_gap {a : Nat} {l : Bs} {ts : List Tok} {e : Option Nat} (h : Lexes a l ts e) : Lexes (a + (l.length - (gapL false l).length)) (gapL false l) ts e := by
  cases h with
  | done h => rw [h]; exact .done (by simp [gapL])
  | @bad _ g l h1 h2 h3 =>
    rw [h1, show (g ++ l).length - l.length = g.length by simp]
    have hf : gapL false l = l := by cases l with | nil => rfl | cons c m => exact gapL_fix (gapL_head h1)
    simpa using Lexes.bad (a := a + g.length) (g := []) (by rw [List.nil_append]; exact hf) h2 h3
  | @step _ g l k t r ts e h1 h2 h3 =>
    rw [h1, show (g ++ l).length - l.length = g.length by simp]
    have hf : gapL false l = l := by cases l with | nil => rfl | cons c m => exact gapL_fix (gapL_head h1)
    have := Lexes.step (a := a + g.length) (g := []) (by rw [List.nil_append]; exact hf) h2 (ts := ts) (e := e) (by simpa using h3)
    simpa using this
theorem lex_inv {a : Nat} {l : Bs} {vs : List Tok} {e : Option Nat} (h : Lexes a l vs e) (hf : gapL false l = l) : (l = [] ∧ vs = [] ∧ e = none) ∨ (l ≠ [] ∧ oneL l = none ∧ vs = [] ∧ e = some a) ∨ ∃ k t r vs', oneL l = some (k, t, r) ∧ vs = (k, t, a) :: vs' ∧ Lexes (a + t.length) r vs' e := by
  cases h with
  | done h => exact Or.inl ⟨by rw [← hf, h], rfl, rfl⟩
  | @bad _ g l h1 h2 h3 =>
    have hg : g = [] := by have := congrArg List.length (hf.symm.trans h1); simp at this; exact this
    subst hg
    exact Or.inr (Or.inl ⟨h2, h3, rfl, rfl⟩)
  | @step _ g l k t r ts e h1 h2 h3 =>
    have hg : g = [] := by have := congrArg List.length (hf.symm.trans h1); simp at this; exact this
    subst hg
    exact Or.inr (Or.inr ⟨k, t, r, ts, h2, by simp, by simpa using h3⟩)
theorem gapL_idem (l : Bs) : gapL false (gapL false l) = gapL false l := by
  cases h : gapL false l with
  | nil => simp [gapL]
  | cons c m => exact gapL_fix (gapL_head h)
theorem suf_drop {s : ByteArray} {j : Nat} {T : Bs} (hj : j ≤ s.size) (h : gapL false ((bl s).drop j) = T) : j ≤ s.size - T.length ∧ s.size - T.length ≤ s.size ∧ (bl s).drop (s.size - T.length) = T := by
  obtain ⟨g, h1, _, _⟩ := gapL_suffix false ((bl s).drop j)
  rw [h] at h1
  have hl := congrArg List.length h1
  rw [List.length_drop, bl_len, List.length_append] at hl
  refine ⟨by omega, by omega, ?_⟩
  have h2 := congrArg (List.drop g.length) h1
  rw [List.drop_left, List.drop_drop] at h2
  rw [show s.size - T.length = j + g.length by omega]
  exact h2
end Go.Proofs.YtfimejmmcfdgaaaDoor
