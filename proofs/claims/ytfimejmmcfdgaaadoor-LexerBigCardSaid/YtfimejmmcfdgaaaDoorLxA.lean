/- The lexer on lists of bytes: gaps, tokens, the relation Lexes; what stands between tokens. Plain mathematics, no program in it. -/
namespace Go.Proofs.YtfimejmmcfdgaaaDoor
set_option linter.unusedVariables false
set_option linter.unusedSimpArgs false
abbrev Bs := List UInt8
/-- The class of a byte. -/
def kd (c : UInt8) : Nat :=
  if (65 ≤ c ∧ c ≤ 90) ∨ (97 ≤ c ∧ c ≤ 122) then 1 else if 48 ≤ c ∧ c ≤ 57 then 2 else if c = 95 then 3 else if c = 40 ∨ c = 41 ∨ c = 123 ∨ c = 125 ∨ c = 59 ∨ c = 44 then 4 else if c = 32 ∨ c = 9 ∨ c = 10 ∨ c = 13 then 5 else if c = 35 then 6 else if c = 45 then 7 else 0
def isW (c : UInt8) : Bool := kd c == 1 || kd c == 2 || kd c == 3
def isD (c : UInt8) : Bool := kd c == 2
/-- What is left behind white space and comments; true: within a comment. -/
def gapL : Bool → Bs → Bs
  | _, [] => []
  | true, c :: l => gapL (c != 10) l
  | false, c :: l => if kd c = 5 then gapL false l else if kd c = 6 then gapL true l else c :: l
/-- Whether a comment is open behind l. -/
def noteL : Bool → Bs → Bool
  | b, [] => b
  | b, c :: l => noteL (if c = 10 then false else if kd c = 6 then true else b) l
def numL (t : Bs) : Bool :=
  let d := if t.head? = some 45 then t.tail else t
  decide (1 ≤ d.length) && decide (d.length ≤ 9) && (decide (d.head? ≠ some 48) || decide (t = [48]))
def bare (r : Bs) : Bool := match r with | [] => true | d :: _ => kd d != 1 && kd d != 3
/-- The token at the front: kind, text, what is left. -/
def oneL : Bs → Option (Nat × Bs × Bs)
  | [] => none
  | c :: l =>
    if kd c = 1 then some (1, c :: l.takeWhile isW, l.dropWhile isW)
    else if kd c = 4 then some (3, [c], l)
    else if kd c = 2 ∨ kd c = 7 then
      if numL (c :: l.takeWhile isD) && bare (l.dropWhile isD) then some (2, c :: l.takeWhile isD, l.dropWhile isD) else none
    else none
/-- A token: kind, text, offset. -/
abbrev Tok := Nat × Bs × Nat
/-- l, which begins at offset a, lexes to the tokens ts; e: where an error is. -/
inductive Lexes : Nat → Bs → List Tok → Option Nat → Prop
  | done {a l} : gapL false l = [] → Lexes a l [] none
  | bad {a g l} : gapL false (g ++ l) = l → l ≠ [] → oneL l = none → Lexes a (g ++ l) [] (some (a + g.length))
  | step {a g l k t r ts e} : gapL false (g ++ l) = l → oneL l = some (k, t, r) → Lexes (a + g.length + t.length) r ts e → Lexes a (g ++ l) ((k, t, a + g.length) :: ts) e
theorem kd10 : kd 10 = 5 := by decide
theorem gapL_suffix (b : Bool) (l : Bs) : ∃ g, l = g ++ gapL b l ∧ gapL b g = [] ∧ (gapL b l ≠ [] → noteL b g = false) := by
  induction l generalizing b with
  | nil => exact ⟨[], by simp [gapL], by simp [gapL], fun h => absurd (by simp [gapL]) h⟩
  | cons c l ih =>
    cases b with
    | true =>
      obtain ⟨g, h1, h2, h3⟩ := ih (c != 10)
      refine ⟨c :: g, by simp only [gapL, List.cons_append]; exact congrArg _ h1, by simp only [gapL]; exact h2, fun h => ?_⟩
      simp only [gapL] at h
      have := h3 h
      simp only [noteL]
      by_cases hc : c = 10
      · subst hc; simpa using this
      · rw [if_neg hc]; simp only [bne_iff_ne, ne_eq, hc, not_false_eq_true, show (c != 10) = true by simpa using hc] at this ⊢; split <;> exact this
    | false =>
      by_cases h5 : kd c = 5
      · obtain ⟨g, h1, h2, h3⟩ := ih false
        refine ⟨c :: g, by simp only [gapL, if_pos h5, List.cons_append]; exact congrArg _ h1, by simp only [gapL, if_pos h5]; exact h2, fun h => ?_⟩
        simp only [gapL, if_pos h5] at h
        simp only [noteL]
        rw [show (if c = 10 then false else if kd c = 6 then true else false) = false by rw [if_neg (show ¬ kd c = 6 by omega)]; simp]
        exact h3 h
      · by_cases h6 : kd c = 6
        · obtain ⟨g, h1, h2, h3⟩ := ih true
          refine ⟨c :: g, by simp only [gapL, if_neg h5, if_pos h6, List.cons_append]; exact congrArg _ h1, by simp only [gapL, if_neg h5, if_pos h6]; exact h2, fun h => ?_⟩
          simp only [gapL, if_neg h5, if_pos h6] at h
          simp only [noteL]
          have hc : ¬ c = 10 := fun e => by subst e; rw [kd10] at h6; cases h6
          rw [if_neg hc, if_pos h6]
          exact h3 h
        · exact ⟨[], by simp [gapL, h5, h6], by simp [gapL], fun _ => by simp [noteL]⟩
theorem gapL_head {b : Bool} {l : Bs} {c : UInt8} {m : Bs} (h : gapL b l = c :: m) : kd c ≠ 5 ∧ kd c ≠ 6 := by
  induction l generalizing b with
  | nil => simp [gapL] at h
  | cons d l ih =>
    cases b with
    | true => simp only [gapL] at h; exact ih h
    | false =>
      simp only [gapL] at h
      by_cases h5 : kd d = 5
      · rw [if_pos h5] at h; exact ih h
      · rw [if_neg h5] at h
        by_cases h6 : kd d = 6
        · rw [if_pos h6] at h; exact ih h
        · rw [if_neg h6] at h; cases h; exact ⟨h5, h6⟩
theorem gapL_fix {c : UInt8} {m : Bs} (h : kd c ≠ 5 ∧ kd c ≠ 6) : gapL false (c :: m) = c :: m := by simp [gapL, h.1, h.2]
/-- Two gaps, one behind the other. -/
theorem gapL_app {b : Bool} {g : Bs} (x : Bs) (h : gapL b g = []) : gapL b (g ++ x) = gapL (noteL b g) x := by
  induction g generalizing b with
  | nil => simp [noteL]
  | cons c l ih =>
    cases b with
    | true =>
      simp only [gapL, List.cons_append, noteL] at h ⊢
      rw [ih h]
      by_cases hc : c = 10
      · subst hc; rfl
      · rw [if_neg hc, show (c != 10) = true by simpa using hc]; split <;> rfl
    | false =>
      simp only [gapL, List.cons_append, noteL] at h ⊢
      by_cases h5 : kd c = 5
      · rw [if_pos h5] at h ⊢
        rw [ih h, show (if c = 10 then false else if kd c = 6 then true else false) = false by rw [if_neg (show ¬ kd c = 6 by omega)]; simp]
      · rw [if_neg h5] at h ⊢
        by_cases h6 : kd c = 6
        · rw [if_pos h6] at h ⊢
          have hc : ¬ c = 10 := fun e => by subst e; rw [kd10] at h6; cases h6
          rw [ih h, if_neg hc, if_pos h6]
        · rw [if_neg h6] at h; cases h
theorem gapL_two {b : Bool} {g l : Bs} (x : Bs) (h : gapL b (g ++ l) = l) (hl : l ≠ []) : gapL b (g ++ (l ++ x)) = l ++ x := by
  induction g generalizing b with
  | nil =>
    cases l with
    | nil => exact absurd rfl hl
    | cons c m =>
      rw [List.nil_append] at h ⊢
      have hk := gapL_head h
      cases b with
      | false => rw [List.cons_append]; exact gapL_fix hk
      | true =>
        exfalso
        obtain ⟨g, h1, h2, _⟩ := gapL_suffix (c != 10) m
        simp only [gapL] at h
        rw [h] at h1
        have := congrArg List.length h1
        simp at this
        omega
  | cons c g ih =>
    cases b with
    | true => simp only [gapL, List.cons_append] at h ⊢; exact ih h
    | false =>
      simp only [gapL, List.cons_append] at h ⊢
      by_cases h5 : kd c = 5
      · rw [if_pos h5] at h ⊢; exact ih h
      · rw [if_neg h5] at h ⊢
        by_cases h6 : kd c = 6
        · rw [if_pos h6] at h ⊢; exact ih h
        · rw [if_neg h6] at h ⊢
          have := congrArg List.length h
          simp at this
          omega
/-- The gap ahead of the first token holds nothing else, and no comment is open behind it. -/
theorem gapL_pre {g l : Bs} (h : gapL false (g ++ l) = l) (hl : l ≠ []) : gapL false g = [] ∧ noteL false g = false := by
  obtain ⟨g', h1, h2, h3⟩ := gapL_suffix false (g ++ l)
  rw [h] at h1 h3
  have : g = g' := List.append_cancel_right h1
  subst this
  exact ⟨h2, h3 hl⟩
theorem takeW_of {p : UInt8 → Bool} (l : Bs) : l = l.takeWhile p ++ l.dropWhile p := List.takeWhile_append_dropWhile.symm
theorem takeW_app {p : UInt8 → Bool} {l : Bs} (x : Bs) (h : ∀ d, x.head? = some d → p d = false) : (l ++ x).takeWhile p = l.takeWhile p ∧ (l ++ x).dropWhile p = l.dropWhile p ++ x := by
  induction l with
  | nil =>
    cases x with
    | nil => simp
    | cons d x => have := h d rfl; simp [this]
  | cons c l ih =>
    by_cases hc : p c
    · simp [hc, ih.1, ih.2]
    · simp [hc]
theorem takeW_all {p : UInt8 → Bool} (l x : Bs) (h : ∀ d, x.head? = some d → p d = false) : (l.takeWhile p ++ x).takeWhile p = l.takeWhile p ∧ (l.takeWhile p ++ x).dropWhile p = x := by
  have h1 := takeW_app (p := p) (l := l.takeWhile p) x h
  have h2 : (l.takeWhile p).takeWhile p = l.takeWhile p := by
    induction l with
    | nil => rfl
    | cons c l ih => by_cases hc : p c <;> simp [hc]; exact ih (takeW_app (p := p) (l := l.takeWhile p) x h)
  have h3 : (l.takeWhile p).dropWhile p = [] := by
    have := takeW_of (p := p) (l.takeWhile p)
    rw [h2] at this
    have e : l.takeWhile p ++ [] = l.takeWhile p ++ (l.takeWhile p).dropWhile p := by rw [List.append_nil]; exact this
    exact (List.append_cancel_left e).symm
  rw [h1.1, h1.2, h2, h3]
  exact ⟨rfl, rfl⟩
theorem dropW_head {p : UInt8 → Bool} (l : Bs) : ∀ d, (l.dropWhile p).head? = some d → p d = false := by
  induction l with
  | nil => simp
  | cons c l ih =>
    intro d h
    by_cases hc : p c
    · simp only [List.dropWhile_cons, hc, if_true] at h; exact ih d h
    · simp only [List.dropWhile_cons, hc, if_false, Bool.false_eq_true] at h
      simp at h
      subst h
      simpa using hc
theorem isD_kd {c : UInt8} (h : isD c = true) : kd c = 2 := by simpa [isD] using h
theorem isW_kd {c : UInt8} (h : isW c = true) : kd c = 1 ∨ kd c = 2 ∨ kd c = 3 := by
  simp [isW] at h; omega
def sep (r : Bs) : Prop := ∀ d, r.head? = some d → isW d = false
theorem sep_of {r : Bs} (h1 : ∀ d, r.head? = some d → isD d = false) (h2 : bare r = true) : sep r := by
  intro d h
  have h3 := h1 d h
  cases r with
  | nil => simp at h
  | cons c r =>
    simp at h
    subst h
    simp [bare] at h2
    simp [isD] at h3
    simp [isW, h3, h2]
theorem bare_of {r : Bs} (h : sep r) : bare r = true ∧ ∀ d, r.head? = some d → isD d = false := by
  cases r with
  | nil => exact ⟨rfl, fun d h => by simp at h⟩
  | cons c r =>
    have := h c rfl
    simp [isW] at this
    refine ⟨by simp [bare, this], fun d hd => ?_⟩
    simp at hd
    subst hd
    simp [isD, this]
/-- What a token is. -/
theorem oneL_some {l t r : Bs} {k : Nat} (h : oneL l = some (k, t, r)) : l = t ++ r ∧ t ≠ [] ∧ (k = 1 ∨ k = 2 ∨ k = 3) ∧ (∀ c ∈ t, kd c ≠ 5 ∧ kd c ≠ 6) ∧ (k = 3 ∨ sep r) := by
  cases l with
  | nil => simp [oneL] at h
  | cons c l =>
    have all : ∀ {p : UInt8 → Bool} (m : Bs) (hp : ∀ c, p c = true → kd c ≠ 5 ∧ kd c ≠ 6), ∀ c ∈ m.takeWhile p, kd c ≠ 5 ∧ kd c ≠ 6 := by
      intro p m hp
      induction m with
      | nil => simp
      | cons d m ih =>
        intro c hc
        by_cases hd : p d
        · simp only [List.takeWhile_cons, hd, if_true, List.mem_cons] at hc
          rcases hc with rfl | hc
          · exact hp _ hd
          · exact ih c hc
        · simp [hd] at hc
    simp only [oneL] at h
    by_cases h1 : kd c = 1
    · rw [if_pos h1] at h
      cases h
      refine ⟨by rw [List.cons_append, ← takeW_of], by simp, Or.inl rfl, ?_, Or.inr (dropW_head l)⟩
      intro d hd
      rcases List.mem_cons.1 hd with rfl | hd
      · omega
      · exact all l (fun c hc => by have := isW_kd hc; omega) d hd
    · rw [if_neg h1] at h
      by_cases h4 : kd c = 4
      · rw [if_pos h4] at h
        cases h
        exact ⟨rfl, by simp, by simp, fun d hd => by simp at hd; subst hd; omega, Or.inl rfl⟩
      · rw [if_neg h4] at h
        by_cases h2 : kd c = 2 ∨ kd c = 7
        · rw [if_pos h2] at h
          by_cases hn : (numL (c :: l.takeWhile isD) && bare (l.dropWhile isD)) = true
          · rw [if_pos hn] at h
            cases h
            rw [Bool.and_eq_true] at hn
            refine ⟨by rw [List.cons_append, ← takeW_of], by simp, by simp, ?_, Or.inr (sep_of (dropW_head l) hn.2)⟩
            intro d hd
            rcases List.mem_cons.1 hd with rfl | hd
            · omega
            · exact all l (fun c hc => by have := isD_kd hc; omega) d hd
          · rw [if_neg hn] at h; cases h
        · rw [if_neg h2] at h; cases h
/-- The same token before something else. -/
theorem oneL_re {l t r : Bs} {k : Nat} (h : oneL l = some (k, t, r)) {r' : Bs} (hs : k = 3 ∨ sep r') : oneL (t ++ r') = some (k, t, r') := by
  cases l with
  | nil => simp [oneL] at h
  | cons c l =>
    simp only [oneL] at h
    by_cases h1 : kd c = 1
    · rw [if_pos h1] at h
      cases h
      have hs' : sep r' := by rcases hs with h | h; cases h; exact h
      have := takeW_all (p := isW) l r' hs'
      rw [List.cons_append]
      simp only [oneL]
      rw [if_pos h1, this.1, this.2]
    · rw [if_neg h1] at h
      by_cases h4 : kd c = 4
      · rw [if_pos h4] at h
        cases h
        simp [oneL, h1, h4]
      · rw [if_neg h4] at h
        by_cases h2 : kd c = 2 ∨ kd c = 7
        · rw [if_pos h2] at h
          by_cases hn : (numL (c :: l.takeWhile isD) && bare (l.dropWhile isD)) = true
          · rw [if_pos hn] at h
            cases h
            rw [Bool.and_eq_true] at hn
            have hs' : sep r' := by rcases hs with h | h; cases h; exact h
            have hb := bare_of hs'
            have := takeW_all (p := isD) l r' hb.2
            rw [List.cons_append]
            simp only [oneL]
            rw [if_neg h1, if_neg h4, if_pos h2, this.1, this.2, hn.1, hb.1]
            rfl
          · rw [if_neg hn] at h; cases h
        · rw [if_neg h2] at h; cases h
/-- No token before white space either. -/
theorem oneL_none {l : Bs} (hl : l ≠ []) (h : oneL l = none) (x : Bs) (hx : ∀ d, x.head? = some d → kd d = 5) : oneL (l ++ x) = none := by
  cases l with
  | nil => exact absurd rfl hl
  | cons c l =>
    rw [List.cons_append]
    simp only [oneL] at h ⊢
    by_cases h1 : kd c = 1
    · rw [if_pos h1] at h; cases h
    · rw [if_neg h1] at h ⊢
      by_cases h4 : kd c = 4
      · rw [if_pos h4] at h; cases h
      · rw [if_neg h4] at h ⊢
        by_cases h2 : kd c = 2 ∨ kd c = 7
        · rw [if_pos h2] at h ⊢
          have := takeW_app (p := isD) (l := l) x (fun d hd => by have := hx d hd; simp [isD, this])
          rw [this.1, this.2]
          by_cases hn : (numL (c :: l.takeWhile isD) && bare (l.dropWhile isD)) = true
          · rw [if_pos hn] at h; cases h
          · rw [if_neg]
            intro hc
            apply hn
            rw [Bool.and_eq_true] at hc ⊢
            refine ⟨hc.1, ?_⟩
            have hb := hc.2
            cases hd : l.dropWhile isD with
            | nil => rfl
            | cons d m => rw [hd] at hb; simpa [bare] using hb
        · rw [if_neg h2]
end Go.Proofs.YtfimejmmcfdgaaaDoor
