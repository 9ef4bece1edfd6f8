/- The usual decimal notation of an integer with at most nine digits is a single token; with a leading zero, or directly followed by a letter, it is an error.
Conditions: none on the arguments; the table of classes lies as the program's text lays it (the card's tie). -/
import Derived.Test.YtfimejmmcfdgaaaDoorLxM
import Derived.Test.YtfimejmmcfdgaaaDoorLxFr
import Derived.Laws.IdiomStrings
import Derived.Test.YtfimejmmcfdgaaaDoorTie
import Derived.Test.YtfimejmmcfdgaaaDoorCards
import Derived.SevenTiedAt
namespace Go.Proofs.YtfimejmmcfdgaaaDoor.lexerNumbers
open Go.ChangeShapes Go.WideShapes Go.ChangeAt Go.RowKit
set_option linter.unusedVariables false
set_option linter.unusedSimpArgs false
set_option maxRecDepth 100000
theorem lex_some (s : ByteArray) (w : World) (hTab : Tab w) (hs : s.size ≤ 20000) :
    Calls Tryd.prog 12 #[.string s] w fun e w' => (∃ ao n cap x y, e = .returned (.tuple #[.slice ao n cap, .int .i64 x, .int .i64 y])) ∧ Below w.heap.size w w' := by
  obtain ⟨ts, o, h⟩ := lexes_ex 0 (bl s)
  refine (lex_is s ts o w hTab hs (Lib.hid h)).mono ?_
  rintro e w' ⟨hR, hb⟩
  cases o with
  | none =>
    obtain ⟨ao, cap, rfl, _⟩ := hR
    exact ⟨⟨_, _, _, _, _, rfl⟩, hb⟩
  | some p =>
    cases hR
    exact ⟨⟨_, _, _, _, _, rfl⟩, hb⟩
theorem num_ok {sg d : Bs} (hs : sg = [] ∨ sg = [45] ∧ d ≠ [48]) (h : Dg d) : Lexes 0 (sg ++ d) [(2, sg ++ d, 0)] none := by
  have h1 := lexes_num hs h 0
  have h2 := tok_gap h1 []
  rw [List.append_nil] at h2
  exact Lexes.step (a := 0) (g := []) h2 h1 (.done (by simp [gapL]))
theorem num_zero {sg d : Bs} (hs : sg = [] ∨ sg = [45]) (h : Dg d) : Lexes 0 (sg ++ 48 :: d) [] (some 0) := by
  obtain ⟨h0, h9, hd, hh⟩ := h
  have hd' : ∀ c ∈ (48 : UInt8) :: d, 48 ≤ c ∧ c ≤ 57 := fun c hc => by
    rcases List.mem_cons.1 hc with rfl | hc
    · decide
    · exact hd c hc
  have h1 := oneL_num (sg := sg) (d := 48 :: d) (x := []) hs hd' (by simp) (fun c hc => by simp at hc)
  have hn : numL (sg ++ 48 :: d) = false := by
    rcases hs with rfl | rfl
    · rw [List.nil_append, numL_plain hd']
      have : ¬ (48 : UInt8) :: d = [48] := fun e => h0 (by simpa using e)
      simp [this]
    · rw [List.cons_append, List.nil_append, numL_minus]
      simp
  rw [List.append_nil, hn] at h1
  have hg : gapL false (sg ++ 48 :: d) = sg ++ 48 :: d := by
    rcases hs with rfl | rfl
    · exact gapL_fix (by decide)
    · exact gapL_fix (by decide)
  exact Lexes.bad (a := 0) (g := []) hg (by simp) (by simpa using h1)
theorem num_letter {sg d : Bs} {c : UInt8} (hs : sg = [] ∨ sg = [45]) (h : Dg d) (hc : kd c = 1) : Lexes 0 (sg ++ (d ++ [c])) [] (some 0) := by
  obtain ⟨h0, h9, hd, hh⟩ := h
  have h1 := oneL_num (sg := sg) (d := d) (x := [c]) hs hd h0 (fun e he => by simp at he; subst he; simp [isD, hc])
  rw [show bare [c] = false by simp [bare, hc], Bool.and_false] at h1
  have hg : gapL false (sg ++ (d ++ [c])) = sg ++ (d ++ [c]) := by
    rcases hs with rfl | rfl
    · cases d with
      | nil => exact absurd rfl h0
      | cons e d => exact gapL_fix (by have := kd_dig (hd e (by simp)); omega)
    · exact gapL_fix (by decide)
  exact Lexes.bad (a := 0) (g := []) hg (by cases d <;> simp_all) (by simpa using h1)
theorem num_two {d : Bs} (h : Dg d) (h48 : d ≠ [48]) : Lexes 0 (d ++ ([45] ++ d)) [(2, d, 0), (2, [45] ++ d, d.length)] none := by
  obtain ⟨h0, h9, hd, hh⟩ := h
  have h1 := oneL_num (sg := []) (d := d) (x := [45] ++ d) (Or.inl rfl) hd h0 (fun e he => by simp at he; subst he; decide)
  have hl : 1 ≤ d.length := by cases d with | nil => exact absurd rfl h0 | cons c d => simp
  have hn : numL d = true := by
    rw [numL_plain hd]
    have : d.head? ≠ some 48 := by rcases hh with h | h; exact h; exact absurd h h48
    simp [hl, h9, this]
  rw [List.nil_append, List.nil_append, hn, show bare ([45] ++ d) = true from by simp [bare]; decide] at h1
  have h2 := lexes_num (sg := [45]) (d := d) (Or.inr ⟨rfl, h48⟩) ⟨h0, h9, hd, hh⟩ 0
  have g1 := tok_gap h1 ([45] ++ d)
  have g2 := tok_gap h2 []
  rw [List.append_nil] at g2
  have s2 := Lexes.step (a := 0 + ([] : Bs).length + d.length) (g := []) g2 h2 (.done (by simp [gapL]))
  have s1 := Lexes.step (a := 0) (g := []) (l := d ++ ([45] ++ d)) g1 h1 s2
  simpa using s1
/-- The loop that writes the digits. -/
def NumI (M m : Nat) (D : ByteArray) : Prop := (∀ c ∈ bl D, 48 ≤ c ∧ c ≤ 57) ∧ D.size ≤ 9 ∧ m < 10 ^ (9 - D.size) ∧ ((D.size = 0 ∧ m = M) ∨ (0 < D.size ∧ (0 < m ∨ (bl D).head? ≠ some 48 ∨ (M = 0 ∧ bl D = [48]))))
theorem bl_one (c : UInt8) (D : ByteArray) : bl (⟨#[c]⟩ ++ D) = c :: bl D := by unfold bl; simp
theorem numI_next {M m : Nat} {D : ByteArray} (h : NumI M m D) (hc : 0 < m ∨ D.size = 0) : NumI M (m / 10) (⟨#[UInt8.ofNat (48 + m % 10)]⟩ ++ D) ∧ (⟨#[UInt8.ofNat (48 + m % 10)]⟩ ++ D).size = D.size + 1 := by
  obtain ⟨h1, h2, h3, h4⟩ := h
  have hs : (⟨#[UInt8.ofNat (48 + m % 10)]⟩ ++ D).size = D.size + 1 := by rw [ByteArray.size_append]; show 1 + D.size = _; omega
  have h9 : D.size ≤ 8 := by
    rcases Nat.lt_or_ge D.size 9 with h | h
    · omega
    · have e : 9 - D.size = 0 := by omega
      rw [e, Nat.pow_zero] at h3
      rcases hc with hc | hc <;> omega
  have hd : m % 10 < 10 := Nat.mod_lt _ (by omega)
  have hN : (UInt8.ofNat (48 + m % 10)).toNat = 48 + m % 10 := by show (48 + m % 10) % 256 = _; omega
  have hb : 48 ≤ UInt8.ofNat (48 + m % 10) ∧ UInt8.ofNat (48 + m % 10) ≤ 57 := by
    simp only [UInt8.le_iff_toNat_le, hN]
    constructor
    · show 48 ≤ _; omega
    · show _ ≤ 57; omega
  refine ⟨⟨?_, by rw [hs]; omega, ?_, Or.inr ⟨by rw [hs]; omega, ?_⟩⟩, hs⟩
  · intro c hm
    rw [bl_one] at hm
    rcases List.mem_cons.1 hm with rfl | hm
    · exact hb
    · exact h1 c hm
  · rw [hs]
    have e : 9 - D.size = (9 - (D.size + 1)) + 1 := by omega
    rw [e, Nat.pow_succ] at h3
    omega
  · by_cases h10 : 0 < m / 10
    · exact Or.inl h10
    · have hm : m < 10 := by omega
      rw [bl_one]
      by_cases h0 : m = 0
      · have hz : D.size = 0 := by omega
        have hM : m = M := by rcases h4 with h4 | h4; exact h4.2; omega
        right; right
        refine ⟨by omega, ?_⟩
        have : bl D = [] := List.length_eq_zero_iff.1 (by rw [bl_len]; exact hz)
        rw [this, h0]
        rfl
      · right; left
        simp only [List.head?_cons, ne_eq, Option.some.injEq]
        intro e
        have := congrArg UInt8.toNat e
        rw [hN, show (48 : UInt8).toNat = 48 from rfl] at this
        omega
theorem numI_end {M : Nat} {D : ByteArray} (h : NumI M 0 D) (hz : D.size ≠ 0) : Dg (bl D) ∧ (0 < M → bl D ≠ [48]) := by
  obtain ⟨h1, h2, h3, h4⟩ := h
  have hne : bl D ≠ [] := fun e => hz (by rw [← bl_len, e]; rfl)
  rcases h4 with h4 | ⟨_, h4⟩
  · omega
  rcases h4 with h4 | h4 | ⟨h4, h5⟩
  · omega
  · exact ⟨⟨hne, by rw [bl_len]; exact h2, h1, Or.inl h4⟩, fun _ e => h4 (by rw [e]; rfl)⟩
  · exact ⟨⟨hne, by rw [bl_len]; exact h2, h1, Or.inr h5⟩, fun h => by omega⟩
theorem conv_one (c : Nat) (hc : c < 256) (w : World) : (convert 32 9 (.slice (some ⟨w.heap.size, 0, none⟩) 1 1)).run Tryd.prog (w.alloc (.cells #[.int .u8 (c : Int)] 5)) = .ok (.string ⟨#[UInt8.ofNat c]⟩) (w.alloc (.cells #[.int .u8 (c : Int)] 5)) := by
  have h := run_convert_bytes_back (P := Tryd.prog) (w.alloc (.cells #[.int .u8 (c : Int)] 5)) 32 9 5 ⟨w.heap.size, 0, none⟩ 1 [UInt8.ofNat c] Tryd.underlying32 Tryd.underlying5 Tryd.underlying9 (fun j hj => by
    have hb := blk_new w (.cells #[.int .u8 (c : Int)] 5) _ rfl
    have : j = 0 := by simpa using hj
    subst this
    have h0 := blk_cell hb 0 _ rfl
    simp only [List.getElem_cons_zero]
    rw [show (UInt8.ofNat c).toNat = c by show c % 256 = _; omega]
    exact h0)
  exact h
theorem size_zero {D : ByteArray} (h : D.size = 0) : D = ⟨#[]⟩ := by
  have : bl D = [] := List.length_eq_zero_iff.1 (by rw [bl_len]; exact h)
  rw [← bsA_bl D, this]
  rfl
theorem letter_kd (c : Nat) (h : 97 ≤ c ∧ c ≤ 122) : kd (UInt8.ofNat c) = 1 := by
  have hN : (UInt8.ofNat c).toNat = c := by show c % 256 = _; omega
  unfold kd
  rw [if_pos (Or.inr ?_)]
  simp only [UInt8.le_iff_toNat_le, hN]
  exact h
set_option maxHeartbeats 8000000 in
set_option maxRecDepth 1000000 in
theorem walk (n : Int) (hn : (Lit.int .i64 n).wf = true) (c0 : Int) (hc : (Lit.int .u8 c0).wf = true) (w : World) (hTab : Tab w) :
    Calls Tryd.prog 8 #[.int .i64 n, .int .u8 c0] w fun e w' => e = .returned (.bool true) ∧ Below w.heap.size w w' := by
  have TB : Hid (∀ v, Below w.heap.size w v → Tab v) := Lib.hid fun v h => hTab.below h
  clear hTab
  have cb := bounds_u8 hc
  clear hn hc
  obtain ⟨x, hx⟩ : ∃ x, n.tmod 1000000000 = x := ⟨_, rfl⟩
  have xb : -999999999 ≤ x ∧ x ≤ 999999999 := by
    have h1 := Int.tmod_lt_of_pos n (b := 1000000000) (by omega)
    have h2 := Int.lt_tmod_of_pos n (b := 1000000000) (by omega)
    omega
  obtain ⟨M, hM⟩ : ∃ M, x.natAbs = M := ⟨_, rfl⟩
  have MB : M < 10 ^ 9 := by rw [← hM]; omega
  have hmx := run_max2 x (-x)
  have e1 : mxI x (-x) = (M : Int) := by unfold mxI; split <;> omega
  rw [e1] at hmx
  have HX := Lib.hid hM
  have N0 : Hid (NumI M M ⟨#[]⟩) := Lib.hid ⟨by intro c hc; simp [bl] at hc, by decide, MB, Or.inl ⟨rfl, rfl⟩⟩
  clear e1 hM MB
  go_enter Tryd.func8, Tryd.ntmps8
  go_wp2_with (first | (go_at_call 10; refine (head10_is _ (TB.out _ (Below.refl _ _))).mono ?_; rintro e' W1 ⟨rfl, hb⟩; have B1 := Lib.hid hb; clear hb))
  go_loopw [8, 7] (fun a d wr => ∃ (m : Nat) (D : ByteArray), m ≤ 999999999 ∧ a = .int .i64 m ∧ d = .string D ∧ Hid (NumI M m D) ∧ Hid (Below w.heap.size w wr)) (fun a d _ => 2 * (intOf a).toNat + (match d with | .string D => if D.size = 0 then 1 else 0 | _ => 0))
  case atStart => exact ⟨M, ⟨#[]⟩, by have := HX.out; omega, rfl, rfl, N0, B1⟩
  case round =>
    obtain ⟨m, D, hm, rfl, rfl, HN, HB⟩ := hrel
    by_cases hc : 0 < m ∨ D.size = 0
    · by_cases hp : 0 < m
      · obtain ⟨e, he⟩ : ∃ e, m % 10 = e := ⟨_, rfl⟩
        obtain ⟨q, hq⟩ : ∃ q, m / 10 = q := ⟨_, rfl⟩
        obtain ⟨c, hc1⟩ : ∃ c, 48 + e = c := ⟨_, rfl⟩
        have cb1 : 48 ≤ c ∧ c ≤ 57 := by omega
        have NX := numI_next HN.out (m := m) (by omega)
        rw [he, hq, hc1] at NX
        have CV := fun w => conv_one c (by omega) w
        have cw : (c : Int) ≤ 255 := by omega
        obtain ⟨D', hD'⟩ : ∃ D', (⟨#[UInt8.ofNat c]⟩ : ByteArray) ++ D = D' := ⟨_, rfl⟩
        have dz : (D : ByteArray).size ≤ 9 := HN.out.2.1
        have ad : ∀ w : World, (Op.stringOp .add ⟨#[UInt8.ofNat c]⟩ D).run Tryd.prog w = .ok (.string D') w := fun w => by rw [← hD']; exact run_string_add_sum _ _ _ (by show 1 + _ ≤ _; omega)
        rw [hD'] at NX
        have HN2 := Lib.hid NX.1
        have DZ : Hid (D'.size ≠ 0) := Lib.hid (by rw [NX.2]; omega)
        have MQ : Hid (q < m) := Lib.hid (by omega)
        have em : ((m : Nat) : Int) % 10 = (e : Int) := by omega
        have eq' : ((m : Nat) : Int) / 10 = (q : Int) := by omega
        have ec : (48 : Int) + (e : Int) = (c : Int) := by omega
        have qb : q ≤ 999999999 := by omega
        have HQ := Lib.hid hq
        clear NX hD' he hq hc1 hm
        have m0 : (0 : Int) < m := by omega
        go_wp2
        refine ⟨⟨q, D', qb, rfl, rfl, HN2, Lib.hid (belA HB.out _)⟩, ?_⟩
        simp only [intOf, if_neg DZ.out]
        have := MQ.out; simp [intOf]; try omega

      · have hm0 : m = 0 := by omega
        have hD0 : D = ⟨#[]⟩ := size_zero (by omega)
        subst hm0
        subst hD0
        clear hc hp
        have NX := numI_next HN.out (m := 0) (Or.inr rfl)
        have ez : (⟨#[UInt8.ofNat (48 + 0 % 10)]⟩ ++ ⟨#[]⟩ : ByteArray) = ⟨#[48]⟩ := by rw [← bsA_bl (_ ++ _), bl_one]; rfl
        have ey : (⟨#[48]⟩ ++ ⟨#[]⟩ : ByteArray) = ⟨#[48]⟩ := ez
        rw [ez] at NX
        have HN2 : Hid (NumI M 0 ⟨#[48]⟩) := Lib.hid NX.1
        have CV : ∀ w : World, (convert 32 9 (.slice (some ⟨w.heap.size, 0, none⟩) 1 1)).run Tryd.prog (w.alloc (.cells #[.int .u8 48] 5)) = .ok (.string ⟨#[48]⟩) (w.alloc (.cells #[.int .u8 48] 5)) := fun w => conv_one 48 (by omega) w
        have ad : ∀ w : World, (Op.stringOp .add ⟨#[48]⟩ ⟨#[]⟩).run Tryd.prog w = .ok (.string ⟨#[48]⟩) w := fun w => by
          have h := run_string_add_sum (P := Tryd.prog) w ⟨#[48]⟩ ⟨#[]⟩ (by decide)
          rw [ey] at h
          exact h
        clear NX ez ey
        go_wp2
        refine ⟨⟨0, ⟨#[48]⟩, by omega, rfl, rfl, HN2, Lib.hid (belA HB.out _)⟩, ?_⟩
        decide
    · have hm0 : m = 0 := by omega
      have hdz : D.size ≠ 0 := by omega
      subst hm0
      obtain ⟨DG, D48⟩ := numI_end HN.out hdz
      have hl9 : D.size ≤ 9 := HN.out.2.1
      have hne : (D.toList == ([] : List UInt8)) = false := by
        rw [ByteArray.toList_eq, show D.data.toList = bl D from rfl]
        cases h : bl D with
        | nil => exact absurd (by rw [← bl_len, h]; rfl) hdz
        | cons c l => rfl
      have hne2 : D.toList ≠ [] := by simpa using hne
      obtain ⟨c2, hc2⟩ : ∃ c2 : Nat, 97 + c0 % 26 = (c2 : Int) := ⟨(97 + c0 % 26).toNat, by omega⟩
      have c2b : 97 ≤ c2 ∧ c2 ≤ 122 := by omega
      have c2t : 97 + c0.tmod 26 = (c2 : Int) := by rw [Int.tmod_eq_emod_of_nonneg cb.1]; exact hc2
      have c2w : (c2 : Int) ≤ 255 := by omega
      have CV := fun w => conv_one c2 (by omega) w
      clear hc hm HN
      by_cases hx0 : x < 0
      · have HX' := HX.out
        obtain ⟨S1, hS1⟩ : ∃ S, (⟨#[45]⟩ : ByteArray) ++ D = S := ⟨_, rfl⟩
        obtain ⟨S2, hS2⟩ : ∃ S, (⟨#[45]⟩ ++ ⟨#[48]⟩ : ByteArray) = S := ⟨_, rfl⟩
        obtain ⟨S3, hS3⟩ : ∃ S, S2 ++ D = S := ⟨_, rfl⟩
        obtain ⟨S4, hS4⟩ : ∃ S, S1 ++ ⟨#[UInt8.ofNat c2]⟩ = S := ⟨_, rfl⟩
        obtain ⟨S5, hS5⟩ : ∃ S, D ++ (⟨#[45]⟩ : ByteArray) = S := ⟨_, rfl⟩
        obtain ⟨S6, hS6⟩ : ∃ S, S5 ++ D = S := ⟨_, rfl⟩
        have z1 : S1.size = 1 + D.size := by rw [← hS1, ByteArray.size_append]; rfl
        have z2 : S2.size = 1 + 1 := by rw [← hS2, ByteArray.size_append]; rfl
        have z3 : S3.size = S2.size + D.size := by rw [← hS3, ByteArray.size_append]
        have z4 : S4.size = S1.size + 1 := by rw [← hS4, ByteArray.size_append]; rfl
        have z5 : S5.size = D.size + 1 := by rw [← hS5, ByteArray.size_append]; rfl
        have z6 : S6.size = S5.size + D.size := by rw [← hS6, ByteArray.size_append]
        have b1 : bl S1 = [45] ++ bl D := by rw [← hS1]; unfold bl; simp
        have b3 : bl S3 = [45] ++ 48 :: bl D := by rw [← hS3, ← hS2]; unfold bl; simp
        have b4 : bl S4 = [45] ++ (bl D ++ [UInt8.ofNat c2]) := by rw [← hS4, ← hS1]; unfold bl; simp
        have b6 : bl S6 = bl D ++ ([45] ++ bl D) := by rw [← hS6, ← hS5]; unfold bl; simp
        have ad1 : ∀ w : World, (Op.stringOp .add ⟨#[45]⟩ D).run Tryd.prog w = .ok (.string S1) w := fun w => by rw [← hS1]; exact run_string_add_sum _ _ _ (by show 1 + _ ≤ _; omega)
        have ad2 : ∀ w : World, (Op.stringOp .add ⟨#[45]⟩ ⟨#[48]⟩).run Tryd.prog w = .ok (.string S2) w := fun w => by rw [← hS2]; exact run_string_add_sum _ _ _ (by show 1 + 1 ≤ _; omega)
        have ad3 : ∀ w : World, (Op.stringOp .add S2 D).run Tryd.prog w = .ok (.string S3) w := fun w => by rw [← hS3]; exact run_string_add_sum _ _ _ (by omega)
        have ad4 : ∀ w : World, (Op.stringOp .add S1 ⟨#[UInt8.ofNat c2]⟩).run Tryd.prog w = .ok (.string S4) w := fun w => by rw [← hS4]; exact run_string_add_sum _ _ _ (by show _ + 1 ≤ _; omega)
        have ad5 : ∀ w : World, (Op.stringOp .add D ⟨#[45]⟩).run Tryd.prog w = .ok (.string S5) w := fun w => by rw [← hS5]; exact run_string_add_sum _ _ _ (by show _ + 1 ≤ _; omega)
        have ad6 : ∀ w : World, (Op.stringOp .add S5 D).run Tryd.prog w = .ok (.string S6) w := fun w => by rw [← hS6]; exact run_string_add_sum _ _ _ (by omega)
        have C1 := fun wv hwv => lex_ok S1 [(2, bl S1, 0)] wv (TB.out wv hwv) (by omega) (Lib.hid (by rw [b1]; exact num_ok (Or.inr ⟨rfl, D48 (by omega)⟩) DG))
        have C2 := fun wv hwv => lex_err S3 [] 0 wv (TB.out wv hwv) (by omega) (Lib.hid (by rw [b3]; exact num_zero (Or.inr rfl) DG))
        have C3 := fun wv hwv => lex_err S4 [] 0 wv (TB.out wv hwv) (by omega) (Lib.hid (by rw [b4]; exact num_letter (Or.inr rfl) DG (letter_kd c2 c2b)))
        have C4 := fun wv hwv => lex_ok S6 [(2, bl D, 0), (2, [45] ++ bl D, (bl D).length)] wv (TB.out wv hwv) (by omega) (Lib.hid (by rw [b6]; exact num_two DG (D48 (by omega))))
        have xn : ¬ 0 ≤ x := by omega
        have xl : x < 0 := hx0
        simp only [List.length_cons, List.length_nil, Nat.zero_add, Nat.reduceAdd] at C1 C4
        clear hS1 hS2 hS3 hS4 hS5 hS6 z1 z2 z3 z4 z5 z6 b1 b3 b4 b6 DG D48 HX'
        go_wp2_with (first | (go_at_call 12; with_reducible refine (C1 _ HB.out).mono ?_; rintro e' W2 ⟨⟨ao, ca, rfl, hc1, hc2, hr⟩, hb⟩; have R2 := Lib.hid hr; have KR2 := Lib.hid (And.intro hc1 hc2); have B2 := Lib.hid (belT HB.out hb); clear hr hb hc1 hc2) | (go_at_call 12; with_reducible refine (C2 _ B2.out).mono ?_; rintro e' W3 ⟨rfl, hb⟩; have B3 := Lib.hid (belT B2.out hb); have R3 := Lib.hid (trow_below R2.out hb); clear hb) | (go_at_call 12; with_reducible refine (C3 _ (belA B3.out _)).mono ?_; rintro e' W4 ⟨rfl, hb⟩; have B5 := Lib.hid (belT (belA B3.out _) hb); have R4 := Lib.hid (trow_below (trow_alloc R3.out _) hb); clear hb) | (go_at_call 12; with_reducible refine (C4 _ B5.out).mono ?_; rintro e' W5 ⟨⟨bo, cb, rfl, hc1, hc2, hr⟩, hb⟩; have R5 := Lib.hid hr; have KR5 := Lib.hid (And.intro hc1 hc2); have B6 := Lib.hid (belT B5.out hb); have R6 := Lib.hid (trow_below R4.out hb); clear hr hb hc1 hc2; refine Hid.out ?_))
        refine Lib.hid ?_
        obtain ⟨b, o, rfl, k0, t0, -⟩ := R6.out 0 (by simp)
        replace k0 : W5.cell? ⟨b, o, none⟩ = some (.int .i64 2) := k0
        replace t0 : W5.cell? ⟨b, o + 1, none⟩ = some (.string S1) := by have h : W5.cell? ⟨b, o + 1, none⟩ = some (.string (bsA (bl S1))) := t0; rwa [bsA_bl] at h
        go_wp2
        go_ret
        exact ⟨rfl, B6.out⟩

      · have HX' := HX.out
        obtain ⟨S1, hS1⟩ : ∃ S, (⟨#[]⟩ : ByteArray) ++ D = S := ⟨_, rfl⟩
        obtain ⟨S2, hS2⟩ : ∃ S, (⟨#[]⟩ ++ ⟨#[48]⟩ : ByteArray) = S := ⟨_, rfl⟩
        obtain ⟨S3, hS3⟩ : ∃ S, S2 ++ D = S := ⟨_, rfl⟩
        obtain ⟨S4, hS4⟩ : ∃ S, S1 ++ ⟨#[UInt8.ofNat c2]⟩ = S := ⟨_, rfl⟩
        obtain ⟨S5, hS5⟩ : ∃ S, D ++ (⟨#[]⟩ : ByteArray) = S := ⟨_, rfl⟩
        obtain ⟨S6, hS6⟩ : ∃ S, S5 ++ D = S := ⟨_, rfl⟩
        have z1 : S1.size = 0 + D.size := by rw [← hS1, ByteArray.size_append]; rfl
        have z2 : S2.size = 0 + 1 := by rw [← hS2, ByteArray.size_append]; rfl
        have z3 : S3.size = S2.size + D.size := by rw [← hS3, ByteArray.size_append]
        have z4 : S4.size = S1.size + 1 := by rw [← hS4, ByteArray.size_append]; rfl
        have z5 : S5.size = D.size + 0 := by rw [← hS5, ByteArray.size_append]; rfl
        have z6 : S6.size = S5.size + D.size := by rw [← hS6, ByteArray.size_append]
        have b1 : bl S1 = [] ++ bl D := by rw [← hS1]; unfold bl; simp
        have b3 : bl S3 = [] ++ 48 :: bl D := by rw [← hS3, ← hS2]; unfold bl; simp
        have b4 : bl S4 = [] ++ (bl D ++ [UInt8.ofNat c2]) := by rw [← hS4, ← hS1]; unfold bl; simp
        have b6 : bl S6 = bl D ++ ([] ++ bl D) := by rw [← hS6, ← hS5]; unfold bl; simp
        have ad1 : ∀ w : World, (Op.stringOp .add ⟨#[]⟩ D).run Tryd.prog w = .ok (.string S1) w := fun w => by rw [← hS1]; exact run_string_add_sum _ _ _ (by show 0 + _ ≤ _; omega)
        have ad2 : ∀ w : World, (Op.stringOp .add ⟨#[]⟩ ⟨#[48]⟩).run Tryd.prog w = .ok (.string S2) w := fun w => by rw [← hS2]; exact run_string_add_sum _ _ _ (by show 0 + 1 ≤ _; omega)
        have ad3 : ∀ w : World, (Op.stringOp .add S2 D).run Tryd.prog w = .ok (.string S3) w := fun w => by rw [← hS3]; exact run_string_add_sum _ _ _ (by omega)
        have ad4 : ∀ w : World, (Op.stringOp .add S1 ⟨#[UInt8.ofNat c2]⟩).run Tryd.prog w = .ok (.string S4) w := fun w => by rw [← hS4]; exact run_string_add_sum _ _ _ (by show _ + 1 ≤ _; omega)
        have ad5 : ∀ w : World, (Op.stringOp .add D ⟨#[]⟩).run Tryd.prog w = .ok (.string S5) w := fun w => by rw [← hS5]; exact run_string_add_sum _ _ _ (by show _ + 0 ≤ _; omega)
        have ad6 : ∀ w : World, (Op.stringOp .add S5 D).run Tryd.prog w = .ok (.string S6) w := fun w => by rw [← hS6]; exact run_string_add_sum _ _ _ (by omega)
        have C1 := fun wv hwv => lex_ok S1 [(2, bl S1, 0)] wv (TB.out wv hwv) (by omega) (Lib.hid (by rw [b1]; exact num_ok (Or.inl rfl) DG))
        have C2 := fun wv hwv => lex_err S3 [] 0 wv (TB.out wv hwv) (by omega) (Lib.hid (by rw [b3]; exact num_zero (Or.inl rfl) DG))
        have C3 := fun wv hwv => lex_err S4 [] 0 wv (TB.out wv hwv) (by omega) (Lib.hid (by rw [b4]; exact num_letter (Or.inl rfl) DG (letter_kd c2 c2b)))
        have C4 := fun wv hwv => lex_some S6 wv (TB.out wv hwv) (by omega)
        have xn : 0 ≤ x := by omega
        have xl : ¬ x < 0 := hx0
        simp only [List.length_cons, List.length_nil, Nat.zero_add, Nat.reduceAdd] at C1
        clear hS1 hS2 hS3 hS4 hS5 hS6 z1 z2 z3 z4 z5 z6 b1 b3 b4 b6 DG D48 HX'
        go_wp2_with (first | (go_at_call 12; with_reducible refine (C1 _ HB.out).mono ?_; rintro e' W2 ⟨⟨ao, ca, rfl, hc1, hc2, hr⟩, hb⟩; have R2 := Lib.hid hr; have KR2 := Lib.hid (And.intro hc1 hc2); have B2 := Lib.hid (belT HB.out hb); clear hr hb hc1 hc2) | (go_at_call 12; with_reducible refine (C2 _ B2.out).mono ?_; rintro e' W3 ⟨rfl, hb⟩; have B3 := Lib.hid (belT B2.out hb); have R3 := Lib.hid (trow_below R2.out hb); clear hb) | (go_at_call 12; with_reducible refine (C3 _ (belA B3.out _)).mono ?_; rintro e' W4 ⟨rfl, hb⟩; have B5 := Lib.hid (belT (belA B3.out _) hb); have R4 := Lib.hid (trow_below (trow_alloc R3.out _) hb); clear hb) | (go_at_call 12; with_reducible refine (C4 _ B5.out).mono ?_; rintro e' W5 ⟨⟨uo, un, uc, ux, uy, rfl⟩, hb⟩; have B6 := Lib.hid (belT B5.out hb); have R6 := Lib.hid (trow_below R4.out hb); clear hb; refine Hid.out ?_))
        refine Lib.hid ?_
        obtain ⟨b, o, rfl, k0, t0, -⟩ := R6.out 0 (by simp)
        replace k0 : W5.cell? ⟨b, o, none⟩ = some (.int .i64 2) := k0
        replace t0 : W5.cell? ⟨b, o + 1, none⟩ = some (.string S1) := by have h : W5.cell? ⟨b, o + 1, none⟩ = some (.string (bsA (bl S1))) := t0; rwa [bsA_bl] at h
        go_wp2
        go_ret
        exact ⟨rfl, B6.out⟩


set_option maxRecDepth 100000 in
theorem lifted (os : Os) (started : os.Started) (H : Type) (enc : TypeId × Value → H) :
    ReturnsInHanded {} Tryd.checked os 8 .any (fun w args => (Rows.lexerNumbersSpec.pre enc Tryd.prog Tryd.f8 [] false w args ∧ laidMetH Tryd.prog Rows.lexerNumbersRow.laid w) ∧ sizedMet enc Tryd.prog Tryd.f8 (OpenSpec.ofChange Rows.lexerNumbersSpec) false w args)
      (Rows.lexerNumbersSpec.post enc Tryd.prog Tryd.f8 false true false false) := by
  refine returnsInHanded_of_change_and (C := Tryd.checked) (X := fun w _ => laidMetH Tryd.prog Rows.lexerNumbersRow.laid w) (fun _ _ _ hh h => h.of_heap hh) own started (by kernel_rfl) Tryd.func8
    (ChangeSpec.witness_shaped (enc := enc) (C := Tryd.checked) (os := os) (X := fun w _ => laidMetH Tryd.prog Rows.lexerNumbersRow.laid w) false (World.doorLaid Tryd.prog 600 os) #[.int .i64 0, .int .u8 0] 8 rfl (World.shaped_of_RefB (by kernel_rfl) (by kernel_rfl)) (by kernel_rfl) (by kernel_rfl) (by kernel_rfl) (show laidMetH Tryd.prog [(qn, Rows.laid_ambidexter_lexer_classes)] _ from door_met os _)) ?_
  intro W base args ds gs before hval0 hW _ _ hL _
  have hval : ∀ (j : Nat) t v, Tryd.f8.params[j]? = some t → args[j]? = some v → Value.okWide Tryd.prog W .any base t v := hval0
  have hW' := hW
  obtain ⟨p, q, hA0, hV, rfl, hfz, hnd⟩ := hW
  have hA : DataW.TrodAll enc Tryd.prog W 0 (fun _ => true) true Tryd.f8.params.toList args.toList ds p := hA0
  rw [Tryd.params8] at hA hval
  obtain ⟨v0, vs0, d0, ds0, p0, q0, hargs, rfl, rfl, h0, r0⟩ := trodAll_cons hA
  obtain ⟨v1, vs1, d1, ds1, p1, q1, rfl, rfl, rfl, h1, r1⟩ := trodAll_cons r0
  obtain ⟨rfl, rfl, rfl⟩ := trodAll_nil r1
  obtain rfl : args = #[v0, v1] := by cases args; simp_all
  obtain ⟨rfl, rfl⟩ := trodVars_none hV
  obtain ⟨a0, rfl, rfl, rfl, w0⟩ := open_int Tryd.underlying3 (hval 0 3 v0 rfl rfl) h0
  obtain ⟨a1, rfl, rfl, rfl, w1⟩ := open_int Tryd.underlying5 (hval 1 5 v1 rfl rfl) h1
  clear hA0 hval0
  simp only [List.append_nil] at hW'
  refine (walk (w := W) (hTab := tab_of_laid hL) a0 w0 a1 w1).mono fun e W' ⟨he, bel⟩ => ?_
  subst he
  exact ⟨_, rfl, _, _, _, [], _, [], hW', trodAll_mk1 (shut_bool Tryd.underlying4 _), (trodAll_cons_mk (shut_int Tryd.underlying3 w0) (trodAll_cons_mk (shut_int Tryd.underlying5 w1) trodAll_mk0)), rfl, bel.frame _, fun h => by cases h⟩

theorem holds : Rows.LexerNumbersSaid :=
  OpenClaim.holds_of_wide 8 Tryd.f8 rfl rfl rfl rfl rfl rfl rfl ⟨rfl, rfl, rfl, rfl, rfl⟩ rfl rfl rfl rfl rfl (by kernel_rfl) Tryd.func8 (by kernel_rfl)
    (of_decide_eq_true (by kernel_rfl)) (by unfold Func.isWrapper; first | (rw [if_pos (by decide +kernel)]; kernel_rfl) | (rw [if_neg (by decide +kernel)]; exact ⟨rfl, rfl⟩))
    (fun os started H enc _ => lifted os started H enc)

/-- THE STATEMENT: the tied card. -/
theorem card_holds : Rows.LexerNumbersCardSaid :=
  Claim7.holds_tied_plain_at .later [] [.data] true Rows.lexerNumbersCard.stood.harness false
    holds (fun _ h => by cases h) (by kernel_rfl) (fun _ h => by cases h) lexerNumbers_row_tie rfl ⟨rfl, rfl⟩ (by kernel_rfl) rfl
    (fun f fn hf hfn => by
      obtain rfl : f = 8 := Option.some.inj ((show Tryd.prog.funcNamed Rows.lexerNumbersRow.func = some 8 by kernel_rfl).symm.trans hf) |>.symm
      obtain rfl : fn = Tryd.f8 := (Option.some.inj (Tryd.func8.symm.trans hfn)).symm
      exact ⟨by kernel_rfl, fun j t ht => by
        rw [Tryd.params8] at ht
        have hm : t ∈ [3, 5] := by have := Array.mem_of_getElem? ht; simp only [List.mem_toArray, List.mem_cons, List.not_mem_nil, or_false] at this ⊢; grind
        have hall : ([3, 5].all fun u => !Tryd.prog.wantsStandIn u) = true := by kernel_rfl
        exact (show Tryd.prog.wantsStandIn t = false by simpa using List.all_eq_true.1 hall t hm)⟩)
    (by kernel_rfl)
#print axioms card_holds
end Go.Proofs.YtfimejmmcfdgaaaDoor.lexerNumbers
