/- What the relation Lexes owes: shifting, appending, cutting off, offsets, joining, numbers. Plain mathematics, no program in it. -/
import Derived.Test.YtfimejmmcfdgaaaDoorLxA
namespace Go.Proofs.YtfimejmmcfdgaaaDoor
set_option linter.unusedVariables false
set_option linter.unusedSimpArgs false
def lexF : Nat → Nat → Bs → List Tok × Option Nat
  | 0, _, _ => ([], none)
  | n + 1, a, l =>
    match gapL false l with
    | [] => ([], none)
    | c :: m => match oneL (c :: m) with
      | none => ([], some (a + (l.length - (m.length + 1))))
      | some (k, t, r) => let x := lexF n (a + (l.length - (m.length + 1)) + t.length) r
        ((k, t, a + (l.length - (m.length + 1))) :: x.1, x.2)
theorem lexF_is (n a : Nat) (l : Bs) (h : l.length < n) : Lexes a l (lexF n a l).1 (lexF n a l).2 := by
  induction n generalizing a l with
  | zero => omega
  | succ n ih =>
    obtain ⟨g, h1, h2, h3⟩ := gapL_suffix false l
    simp only [lexF]
    cases hg : gapL false l with
    | nil => exact .done hg
    | cons c m =>
      rw [hg] at h1
      have hl : l.length - (m.length + 1) = g.length := by rw [h1]; simp
      have hgg : gapL false (g ++ c :: m) = c :: m := by rw [← h1]; exact hg
      simp only [hl]
      cases ho : oneL (c :: m) with
      | none =>
        simp only []
        rw [h1]
        exact .bad hgg (by simp) ho
      | some x =>
        obtain ⟨k, t, r⟩ := x
        simp only []
        have hs := oneL_some ho
        have hr : r.length < n := by
          have e := congrArg List.length hs.1
          have e1 := congrArg List.length h1
          have : t.length ≠ 0 := fun e => hs.2.1 (List.length_eq_zero_iff.1 e)
          simp at e e1
          omega
        have := ih (a + g.length + t.length) r hr
        rw [h1]
        exact .step hgg ho this
theorem lexes_ex (a : Nat) (l : Bs) : ∃ ts e, Lexes a l ts e := ⟨_, _, lexF_is (l.length + 1) a l (by omega)⟩
theorem lexes_F {n a : Nat} {l : Bs} {ts : List Tok} {e : Option Nat} (h : lexF n a l = (ts, e)) (hn : l.length < n) : Lexes a l ts e := by
  have := lexF_is n a l hn
  rwa [h] at this
def shT (d : Nat) (x : Tok) : Tok := (x.1, x.2.1, x.2.2 + d)
theorem lexes_shift {a : Nat} {l : Bs} {ts : List Tok} {e : Option Nat} (h : Lexes a l ts e) (d : Nat) : Lexes (a + d) l (ts.map (shT d)) (e.map (· + d)) := by
  induction h with
  | done h => exact .done h
  | @bad a g l h1 h2 h3 =>
    have := Lexes.bad (a := a + d) h1 h2 h3
    simp only [List.map_nil, Option.map_some]
    rwa [show a + d + g.length = a + g.length + d by omega] at this
  | @step a g l k t r ts e h1 h2 h3 ih =>
    simp only [List.map_cons, shT]
    rw [show a + g.length + d = a + d + g.length by omega]
    refine .step h1 h2 ?_
    rwa [show a + d + g.length + t.length = a + g.length + t.length + d by omega]
theorem noteL_app (b : Bool) (x y : Bs) : noteL b (x ++ y) = noteL (noteL b x) y := by
  induction x generalizing b with
  | nil => rfl
  | cons c x ih => simp only [List.cons_append, noteL]; exact ih _
theorem noteL_tok {t : Bs} (h : ∀ c ∈ t, kd c ≠ 5 ∧ kd c ≠ 6) (b : Bool) : noteL b t = b := by
  induction t generalizing b with
  | nil => rfl
  | cons c t ih =>
    have hc := h c (by simp)
    simp only [noteL]
    rw [if_neg (fun e => by subst e; exact hc.1 kd10), if_neg hc.2]
    exact ih (fun d hd => h d (by simp [hd])) b
/-- A closed gap ahead. -/
theorem lexes_pre {a : Nat} {g x : Bs} {ts : List Tok} {e : Option Nat} (h1 : gapL false g = []) (h2 : noteL false g = false) (h : Lexes (a + g.length) x ts e) : Lexes a (g ++ x) ts e := by
  have hg : ∀ y, gapL false (g ++ y) = gapL false y := fun y => by rw [gapL_app y h1, h2]
  cases h with
  | done h => exact .done (by rw [hg]; exact h)
  | @bad _ g' l h3 h4 h5 =>
    rw [← List.append_assoc]
    have := Lexes.bad (a := a) (g := g ++ g') (by rw [List.append_assoc, hg]; exact h3) h4 h5
    rwa [List.length_append, ← Nat.add_assoc] at this
  | @step _ g' l k t r ts e h3 h4 h5 =>
    rw [← List.append_assoc]
    have := Lexes.step (a := a) (g := g ++ g') (by rw [List.append_assoc, hg]; exact h3) h4 (ts := ts) (e := e) (by rw [List.length_append, ← Nat.add_assoc]; exact h5)
    rwa [List.length_append, ← Nat.add_assoc] at this
theorem tok_gap {l t r : Bs} {k : Nat} (h : oneL l = some (k, t, r)) (x : Bs) : gapL false (t ++ x) = t ++ x := by
  have hs := oneL_some h
  cases t with
  | nil => exact absurd rfl hs.2.1
  | cons c t => rw [List.cons_append]; exact gapL_fix (hs.2.2.2.1 c (by simp))
/-- A step with another rest. -/
theorem lexes_step' {a : Nat} {g l t r r' : Bs} {k : Nat} {ts : List Tok} {e : Option Nat} (h1 : gapL false g = []) (h2 : noteL false g = false) (h3 : oneL l = some (k, t, r)) (hs : k = 3 ∨ sep r') (h : Lexes (a + g.length + t.length) r' ts e) : Lexes a (g ++ (t ++ r')) ((k, t, a + g.length) :: ts) e := by
  refine lexes_pre h1 h2 ?_
  have := Lexes.step (a := a + g.length) (g := []) (l := t ++ r') (by rw [List.nil_append]; exact tok_gap h3 r') (oneL_re h3 hs) (ts := ts) (e := e) (by simpa using h)
  simpa using this
theorem sep_app {r x : Bs} (h : sep r) (hx : ∀ d, x.head? = some d → kd d = 5 ∨ kd d = 6) : sep (r ++ x) := by
  intro d hd
  cases r with
  | nil => have := hx d hd; simp [isW]; omega
  | cons c r => exact h d hd
/-- Appending: the first text's tokens, then the second's. -/
theorem lexes_app {a : Nat} {l x : Bs} {ts ts' : List Tok} {e e' : Option Nat} (h : Lexes a l ts e) (he : e = none) (hn : noteL false l = false) (hx : ∀ d, x.head? = some d → kd d = 5) (h' : Lexes (a + l.length) x ts' e') : Lexes a (l ++ x) (ts ++ ts') e' := by
  induction h with
  | done h => exact lexes_pre h hn h'
  | bad => cases he
  | @step a g l k t r ts e h1 h2 h3 ih =>
    have hs := oneL_some h2
    have hl : l ≠ [] := fun e => by rw [e] at h2; simp [oneL] at h2
    have hp := gapL_pre h1 hl
    have e1 := hs.1
    rw [List.append_assoc, e1, List.append_assoc]
    refine lexes_step' hp.1 hp.2 h2 (hs.2.2.2.2.imp id (fun h => sep_app h (fun d hd => Or.inl (hx d hd)))) (ih he ?_ ?_)
    · rw [noteL_app, hp.2, e1, noteL_app, noteL_tok hs.2.2.2.1] at hn
      exact hn
    · rw [e1] at h'
      simp only [List.length_append] at h'
      rwa [show a + g.length + t.length + r.length = a + (g.length + (t.length + r.length)) by omega]
/-- Appending white space or more behind an error. -/
theorem lexes_app_err {a : Nat} {l x : Bs} {ts : List Tok} {e : Option Nat} (h : Lexes a l ts e) (he : e ≠ none) (hx : ∀ d, x.head? = some d → kd d = 5) : Lexes a (l ++ x) ts e := by
  induction h with
  | done h => exact absurd rfl he
  | @bad a g l h1 h2 h3 =>
    rw [List.append_assoc]
    exact .bad (gapL_two x h1 h2) (by simp [h2]) (oneL_none h2 h3 x hx)
  | @step a g l k t r ts e h1 h2 h3 ih =>
    have hs := oneL_some h2
    have hl : l ≠ [] := fun e => by rw [e] at h2; simp [oneL] at h2
    have hp := gapL_pre h1 hl
    have e1 := hs.1
    rw [List.append_assoc, e1, List.append_assoc]
    exact lexes_step' hp.1 hp.2 h2 (hs.2.2.2.2.imp id (fun h => sep_app h (fun d hd => Or.inl (hx d hd)))) (ih he)
/-- Appending what is a gap whatever stands before it. -/
theorem lexes_pad {a : Nat} {l z : Bs} {ts : List Tok} {e : Option Nat} (h : Lexes a l ts e) (hz : ∀ b, gapL b z = []) (hx : ∀ d, z.head? = some d → kd d = 5) : Lexes a (l ++ z) ts e := by
  induction h with
  | done h => exact .done (by rw [gapL_app z h, hz])
  | @bad a g l h1 h2 h3 => exact lexes_app_err (.bad h1 h2 h3) (by simp) hx
  | @step a g l k t r ts e h1 h2 h3 ih =>
    have hs := oneL_some h2
    have hl : l ≠ [] := fun e => by rw [e] at h2; simp [oneL] at h2
    have hp := gapL_pre h1 hl
    have e1 := hs.1
    rw [List.append_assoc, e1, List.append_assoc]
    exact lexes_step' hp.1 hp.2 h2 (hs.2.2.2.2.imp id (fun h => sep_app h (fun d hd => Or.inl (hx d hd)))) ih
theorem gapL_feeds (n : Nat) (b : Bool) : gapL b (List.replicate n 10) = [] := by
  induction n generalizing b with
  | zero => simp [gapL]
  | succ n ih =>
    rw [List.replicate_succ]
    cases b with
    | true => simp only [gapL]; exact ih _
    | false => simp only [gapL, if_pos kd10]; exact ih _
theorem sep_take {r : Bs} (h : sep r) (n : Nat) : sep (r.take n) := by
  intro d hd
  cases r with
  | nil => simp at hd
  | cons c r =>
    cases n with
    | zero => simp at hd
    | succ n => exact h d (by simpa using hd)
/-- Before an error, and from it on. -/
theorem lexes_cut {a : Nat} {l : Bs} {ts : List Tok} {e : Option Nat} (h : Lexes a l ts e) {p : Nat} (he : e = some p) : a ≤ p ∧ p < a + l.length ∧ Lexes a (l.take (p - a)) ts none ∧ Lexes 0 (l.drop (p - a)) [] (some 0) := by
  induction h with
  | done h => cases he
  | @bad a g l h1 h2 h3 =>
    cases he
    have hl : l.length ≠ 0 := fun e => h2 (List.length_eq_zero_iff.1 e)
    have hp := gapL_pre h1 h2
    rw [show a + g.length - a = g.length by omega, List.take_left, List.drop_left]
    refine ⟨by omega, by simp only [List.length_append]; omega, .done hp.1, ?_⟩
    have hf : gapL false l = l := by
      cases l with
      | nil => rfl
      | cons c m => exact gapL_fix (gapL_head h1)
    exact Lexes.bad (a := 0) (g := []) (by rw [List.nil_append]; exact hf) h2 h3
  | @step a g l k t r ts e h1 h2 h3 ih =>
    have hs := oneL_some h2
    have hl : l ≠ [] := fun e => by rw [e] at h2; simp [oneL] at h2
    have hp := gapL_pre h1 hl
    have e1 := hs.1
    obtain ⟨i1, i2, i3, i4⟩ := ih he
    rw [e1]
    have hd : p - a = g.length + (t.length + (p - (a + g.length + t.length))) := by omega
    rw [hd, List.take_append, List.take_of_length_le (l := g) (by omega), List.drop_append, List.drop_of_length_le (l := g) (by omega), Nat.add_sub_cancel_left, List.take_append, List.take_of_length_le (l := t) (by omega), List.drop_append, List.drop_of_length_le (l := t) (by omega), Nat.add_sub_cancel_left, List.nil_append, List.nil_append]
    refine ⟨by omega, by simp only [List.length_append]; omega, ?_, i4⟩
    exact lexes_step' hp.1 hp.2 h2 (hs.2.2.2.2.imp id (fun h => sep_take h _)) i3
def tok0 : Tok := (0, [], 0)
def endT (x : Tok) : Nat := x.2.2 + x.2.1.length
/-- Cut off behind a token. -/
theorem lexes_trunc {a : Nat} {l : Bs} {ts : List Tok} {e : Option Nat} (h : Lexes a l ts e) (k : Nat) (hk : k < ts.length) : a ≤ endT (ts.getD k tok0) ∧ endT (ts.getD k tok0) ≤ a + l.length ∧ Lexes a (l.take (endT (ts.getD k tok0) - a)) (ts.take (k + 1)) none := by
  induction h generalizing k with
  | done h => simp at hk
  | bad => simp at hk
  | @step a g l q t r ts e h1 h2 h3 ih =>
    have hs := oneL_some h2
    have hl : l ≠ [] := fun e => by rw [e] at h2; simp [oneL] at h2
    have hp := gapL_pre h1 hl
    have e1 := hs.1
    rw [e1]
    cases k with
    | zero =>
      simp only [List.getD_cons_zero, endT, List.take_succ_cons, List.take_zero]
      rw [show a + g.length + t.length - a = g.length + t.length by omega, List.take_append, List.take_of_length_le (l := g) (by omega), Nat.add_sub_cancel_left, List.take_left]
      refine ⟨by omega, by simp only [List.length_append]; omega, ?_⟩
      have := lexes_step' (a := a) (r' := []) hp.1 hp.2 h2 (Or.inr (fun d hd => by simp at hd)) (.done (by simp [gapL]))
      simpa using this
    | succ k =>
      simp only [List.length_cons] at hk
      obtain ⟨i1, i2, i3⟩ := ih k (by omega)
      simp only [List.getD_cons_succ, List.take_succ_cons]
      have hd : endT (ts.getD k tok0) - a = g.length + (t.length + (endT (ts.getD k tok0) - (a + g.length + t.length))) := by omega
      rw [hd, List.take_append, List.take_of_length_le (l := g) (by omega), Nat.add_sub_cancel_left, List.take_append, List.take_of_length_le (l := t) (by omega), Nat.add_sub_cancel_left]
      refine ⟨by omega, by simp only [List.length_append]; omega, ?_⟩
      exact lexes_step' hp.1 hp.2 h2 (hs.2.2.2.2.imp id (fun h => sep_take h _)) i3
/-- Where the next token may begin. -/
def fromT (a : Nat) (ts : List Tok) : Nat → Nat
  | 0 => a
  | i + 1 => endT (ts.getD i tok0)
theorem lexes_offs {a : Nat} {l : Bs} {ts : List Tok} {e : Option Nat} (h : Lexes a l ts e) (pre : Bs) (hp : pre.length = a) (i : Nat) (hi : i < ts.length) :
    fromT a ts i ≤ (ts.getD i tok0).2.2 ∧ (ts.getD i tok0).2.1 ≠ [] ∧ endT (ts.getD i tok0) ≤ a + l.length ∧ (1 ≤ (ts.getD i tok0).1 ∧ (ts.getD i tok0).1 ≤ 3) ∧ ((pre ++ l).drop (ts.getD i tok0).2.2).take (ts.getD i tok0).2.1.length = (ts.getD i tok0).2.1 ∧ gapL false (((pre ++ l).drop (fromT a ts i)).take ((ts.getD i tok0).2.2 - fromT a ts i)) = [] := by
  induction h generalizing pre i with
  | done h => simp at hi
  | bad => simp at hi
  | @step a g l q t r ts e h1 h2 h3 ih =>
    have hs := oneL_some h2
    have hl : l ≠ [] := fun e => by rw [e] at h2; simp [oneL] at h2
    have hg := gapL_pre h1 hl
    have e1 := hs.1
    subst hp
    rw [e1]
    cases i with
    | zero =>
      simp only [List.getD_cons_zero, fromT, endT]
      rw [List.drop_left, show pre.length + g.length - pre.length = g.length by omega, List.take_left, ← List.append_assoc pre, ← List.length_append, List.drop_left, List.take_left]
      refine ⟨by simp only [List.length_append]; omega, hs.2.1, by simp only [List.length_append]; omega, by have := hs.2.2.1; omega, rfl, hg.1⟩
    | succ i =>
      simp only [List.length_cons] at hi
      have := ih (pre ++ (g ++ t)) (by simp only [List.length_append]; omega) i (by omega)
      rw [show pre ++ (g ++ t) ++ r = pre ++ (g ++ (t ++ r)) by simp only [List.append_assoc]] at this
      have hf : fromT pre.length ((q, t, pre.length + g.length) :: ts) (i + 1) = fromT (pre.length + g.length + t.length) ts i := by
        cases i with
        | zero => rfl
        | succ i => rfl
      rw [hf]
      simp only [List.getD_cons_succ]
      refine ⟨this.1, this.2.1, ?_, this.2.2.2⟩
      have := this.2.2.1
      simp only [List.length_append] at *
      omega
theorem lexes_end {a : Nat} {l : Bs} {ts : List Tok} {e : Option Nat} (h : Lexes a l ts e) (he : e = none) (pre : Bs) (hp : pre.length = a) : gapL false ((pre ++ l).drop (fromT a ts ts.length)) = [] ∧ fromT a ts ts.length ≤ a + l.length := by
  induction h generalizing pre with
  | done h => subst hp; simp only [List.length_nil, fromT, List.drop_left]; exact ⟨h, by omega⟩
  | bad => cases he
  | @step a g l q t r ts e h1 h2 h3 ih =>
    have e1 := (oneL_some h2).1
    subst hp
    rw [e1]
    have := ih he (pre ++ (g ++ t)) (by simp only [List.length_append]; omega)
    rw [show pre ++ (g ++ t) ++ r = pre ++ (g ++ (t ++ r)) by simp only [List.append_assoc]] at this
    have hf : fromT pre.length ((q, t, pre.length + g.length) :: ts) (ts.length + 1) = fromT (pre.length + g.length + t.length) ts ts.length := by
      cases ts with
      | nil => rfl
      | cons x ts => rfl
    rw [List.length_cons, hf]
    refine ⟨this.1, ?_⟩
    have := this.2
    simp only [List.length_append] at *
    omega
/-- A token by itself. -/
def IsTok (k : Nat) (t : Bs) : Prop := ∃ l r, oneL l = some (k, t, r)
theorem lexes_toks {a : Nat} {l : Bs} {ts : List Tok} {e : Option Nat} (h : Lexes a l ts e) : ∀ x ∈ ts, IsTok x.1 x.2.1 := by
  induction h with
  | done h => simp
  | bad => simp
  | step h1 h2 h3 ih =>
    intro x hx
    rcases List.mem_cons.1 hx with rfl | hx
    · exact ⟨_, _, h2⟩
    · exact ih x hx
/-- A closed gap that is not empty. -/
def Gap (z : Bs) : Prop := (∃ c m, z = c :: m ∧ (kd c = 5 ∨ kd c = 6)) ∧ gapL false z = [] ∧ noteL false z = false
def joinT : List (Nat × Bs × Bs) → Bs
  | [] => []
  | x :: l => x.2.1 ++ (x.2.2 ++ joinT l)
theorem lexes_join (ps : List (Nat × Bs × Bs)) (h : ∀ x ∈ ps, IsTok x.1 x.2.1 ∧ Gap x.2.2) (a : Nat) : ∃ ts, Lexes a (joinT ps) ts none ∧ ts.map (fun x => (x.1, x.2.1)) = ps.map (fun x => (x.1, x.2.1)) := by
  induction ps generalizing a with
  | nil => exact ⟨[], .done (by simp [joinT, gapL]), rfl⟩
  | cons x ps ih =>
    obtain ⟨k, t, z⟩ := x
    obtain ⟨⟨l, r, ho⟩, ⟨⟨c, m, hc, hk⟩, hz, hn⟩⟩ := h (k, t, z) (by simp)
    obtain ⟨ts, i1, i2⟩ := ih (fun x hx => h x (by simp [hx])) (a + t.length + z.length)
    simp only at ho hc hk hz hn
    refine ⟨(k, t, a) :: ts, ?_, by simp only [List.map_cons, i2]⟩
    have hs : sep (z ++ joinT ps) := by
      intro d hd
      rw [hc] at hd
      simp at hd
      subst hd
      simp [isW]
      omega
    have := lexes_step' (a := a) (g := []) (by simp [gapL]) rfl ho (Or.inr hs) (by rw [List.length_nil, Nat.add_zero]; exact lexes_pre hz hn i1)
    simpa [joinT] using this
theorem joinT_app (p q : List (Nat × Bs × Bs)) : joinT (p ++ q) = joinT p ++ joinT q := by
  induction p with
  | nil => rfl
  | cons x p ih => simp [joinT, ih]
/-- Decimal notation. -/
def Dg (d : Bs) : Prop := d ≠ [] ∧ d.length ≤ 9 ∧ (∀ c ∈ d, 48 ≤ c ∧ c ≤ 57) ∧ (d.head? ≠ some 48 ∨ d = [48])
theorem kd_dig {c : UInt8} (h : 48 ≤ c ∧ c ≤ 57) : kd c = 2 := by
  have h1 : ¬ ((65 ≤ c ∧ c ≤ 90) ∨ (97 ≤ c ∧ c ≤ 122)) := by
    simp only [UInt8.le_iff_toNat_le] at *
    have := h.2
    simp at *
    omega
  unfold kd
  rw [if_neg h1, if_pos h]
theorem takeD {d x : Bs} (h : ∀ c ∈ d, 48 ≤ c ∧ c ≤ 57) (hx : ∀ c, x.head? = some c → isD c = false) : (d ++ x).takeWhile isD = d ∧ (d ++ x).dropWhile isD = x := by
  induction d with
  | nil =>
    cases x with
    | nil => simp
    | cons c x => have := hx c rfl; simp [this]
  | cons c d ih =>
    have hc : isD c = true := by simp [isD, kd_dig (h c (by simp))]
    have := ih (fun e he => h e (by simp [he]))
    simp [hc, this.1, this.2]
theorem oneL_num {sg d x : Bs} (hs : sg = [] ∨ sg = [45]) (hd : ∀ c ∈ d, 48 ≤ c ∧ c ≤ 57) (h0 : d ≠ []) (hx : ∀ c, x.head? = some c → isD c = false) : oneL (sg ++ (d ++ x)) = if numL (sg ++ d) && bare x then some (2, sg ++ d, x) else none := by
  have h45 : kd 45 = 7 := by decide
  rcases hs with rfl | rfl
  · cases d with
    | nil => exact absurd rfl h0
    | cons c d =>
      have hk := kd_dig (hd c (by simp))
      have := takeD (d := d) (fun e he => hd e (by simp [he])) hx
      simp only [List.nil_append, List.cons_append, oneL]
      rw [if_neg (by omega), if_neg (by omega), if_pos (Or.inl hk), this.1, this.2]
  · have := takeD hd hx
    simp only [List.nil_append, List.cons_append, oneL]
    rw [h45, if_neg (by decide), if_neg (by decide), if_pos (Or.inr rfl), this.1, this.2]
theorem num_head {d : Bs} (hd : ∀ c ∈ d, 48 ≤ c ∧ c ≤ 57) : d.head? ≠ some 45 := by
  intro h
  cases d with
  | nil => simp at h
  | cons c d =>
    simp at h
    subst h
    have := (hd 45 (by simp)).1
    exact absurd this (by decide)
theorem numL_plain {d : Bs} (hd : ∀ c ∈ d, 48 ≤ c ∧ c ≤ 57) : numL d = (decide (1 ≤ d.length) && decide (d.length ≤ 9) && (decide (d.head? ≠ some 48) || decide (d = [48]))) := by
  unfold numL
  simp only [if_neg (num_head hd)]
theorem numL_minus (d : Bs) : numL (45 :: d) = (decide (1 ≤ d.length) && decide (d.length ≤ 9) && (decide (d.head? ≠ some 48) || decide (45 :: d = [48]))) := by
  unfold numL
  simp
theorem lexes_num {sg d : Bs} (hs : sg = [] ∨ sg = [45] ∧ d ≠ [48]) (h : Dg d) (a : Nat) : oneL (sg ++ d) = some (2, sg ++ d, []) := by
  obtain ⟨h0, h9, hd, hh⟩ := h
  have hl : 1 ≤ d.length := by cases d with | nil => exact absurd rfl h0 | cons c d => simp
  have := oneL_num (sg := sg) (d := d) (x := []) (hs.imp id (·.1)) hd h0 (fun c hc => by simp at hc)
  rw [List.append_nil] at this
  rw [this]
  rcases hs with rfl | ⟨rfl, hn⟩
  · rw [List.nil_append, numL_plain hd]
    simp only [hl, h9, decide_true, Bool.true_and, bare, Bool.and_true]
    rw [if_pos]
    rcases hh with h | h
    · simp [h]
    · simp [h]
  · rw [List.cons_append, List.nil_append, numL_minus]
    have : d.head? ≠ some 48 := by rcases hh with h | h; exact h; exact absurd h hn
    simp [hl, h9, this, bare]
end Go.Proofs.YtfimejmmcfdgaaaDoor
