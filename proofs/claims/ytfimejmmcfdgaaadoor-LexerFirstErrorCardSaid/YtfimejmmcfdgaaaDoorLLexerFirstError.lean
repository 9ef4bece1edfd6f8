/- The input before the offset of an error lexes without an error, and truncating a valid input after a token yields the tokens up to that token (at most 2000 bytes).
Conditions: none on the arguments; the table of classes lies as the program's text lays it (the card's tie). -/
import Derived.Test.YtfimejmmcfdgaaaDoorLxM
import Derived.Test.YtfimejmmcfdgaaaDoorLxFr
import Derived.Test.YtfimejmmcfdgaaaDoorTie
import Derived.Test.YtfimejmmcfdgaaaDoorCards
import Derived.SevenTiedAt
namespace Go.Proofs.YtfimejmmcfdgaaaDoor.lexerFirstError
open Go.ChangeShapes Go.WideShapes Go.ChangeAt Go.RowKit
set_option linter.unusedVariables false
set_option linter.unusedSimpArgs false
set_option maxRecDepth 100000
theorem trow_take {w : World} {ao : Option Addr} {l : List Tok} (h : TRow w ao l) (k : Nat) : TRow w ao (l.take k) := fun i hi => by
  rw [List.length_take] at hi
  obtain ⟨b, o, e, c1, c2, c3⟩ := h i (by omega)
  have g : (l.take k).getD i tok0 = l.getD i tok0 := by
    rw [List.getD_eq_getElem?_getD, List.getD_eq_getElem?_getD, List.getElem?_take_of_lt (by omega)]
  exact ⟨b, o, e, by rw [g]; exact c1, by rw [g]; exact c2, by rw [g]; exact c3⟩
theorem getD_split (ts : List Tok) (i : Nat) : ∃ k t a, ts.getD i tok0 = (k, t, a) := ⟨_, _, _, rfl⟩
theorem bl_to (s : ByteArray) (z : Nat) : bl (s.extract 0 z) = (bl s).take z := by rw [bl_sub, List.drop_zero, Nat.sub_zero]
set_option maxHeartbeats 8000000 in
theorem walk (s : ByteArray) (hs : s.size ≤ maxLen) (n1 : Int) (w1 : (Lit.int .u8 n1).wf = true) (w : World) (hTab : Tab w) :
    Calls Tryd.prog 7 #[.string s, .int .u8 n1] w fun e w' => e = .returned (.bool true) ∧ Below w.heap.size w w' := by
  have TB : Hid (∀ v, Below w.heap.size w v → Tab v) := Lib.hid fun v h => hTab.below h
  clear hTab
  have nb := bounds_u8 w1
  clear w1
  have FC := fun w => few_is s w hs
  have fz := fewB_size s
  generalize fewB s = t at *
  obtain ⟨ts, o, h⟩ := lexes_ex 0 (bl t)
  have tl := toks_le h
  rw [bl_len] at tl
  have HL := Lib.hid h
  clear h hs
  cases o with
  | some p =>
    have C1 := fun wv hwv => lex_err t ts p wv (TB.out wv hwv) (by omega) HL
    have HP := lexes_cut HL.out rfl
    have hp : p < t.size := by have := HP.2.1; rw [bl_len] at this; omega
    have C2 := fun wv hwv => lex_ok (t.extract 0 p) ts wv (TB.out wv hwv) (by rw [ByteArray.size_extract]; omega) (Lib.hid (by rw [bl_to]; simpa using HP.2.2.1))
    have C3 := fun wv hwv => lex_err (t.extract p t.size) [] 0 wv (TB.out wv hwv) (by rw [ByteArray.size_extract]; omega) (Lib.hid (by rw [bl_ext]; simpa using HP.2.2.2))
    have hp' : (p : Int) < t.size := by omega
    have hp2 : p ≤ t.size := by omega
    clear HP
    go_enter Tryd.func7, Tryd.ntmps7
    go_wp2_with (first | (go_at_call 10; refine (head10_is _ (TB.out _ (Below.refl _ _))).mono ?_; rintro e' W1 ⟨rfl, hb⟩; have B1 := Lib.hid hb; clear hb) | (go_at_call 11; with_reducible refine (FC _).mono ?_; rintro e' w' ⟨rfl, rfl⟩) | (go_at_call 12; with_reducible refine (C1 _ B1.out).mono ?_; rintro e' W2 ⟨rfl, hb⟩; have B2 := Lib.hid (belT B1.out hb); clear hb) | (go_at_call 12; with_reducible refine (C2 _ B2.out).mono ?_; rintro e' W3 ⟨⟨ao, ca, rfl, hc1, hc2, hr⟩, hb⟩; have R3 := Lib.hid hr; have KR3 := Lib.hid (And.intro hc1 hc2); have B3 := Lib.hid (belT B2.out hb); clear hr hb hc1 hc2) | (go_at_call 12; with_reducible refine (C3 _ B3.out).mono ?_; rintro e' W4 ⟨rfl, hb⟩; have B4 := Lib.hid (belT B3.out hb); clear hb))
    go_ret
    exact ⟨rfl, B4.out⟩
  | none =>
    have C1 := fun wv hwv => lex_ok t ts wv (TB.out wv hwv) (by omega) HL
    by_cases h0 : ts = []
    · subst h0
      have VC : ∀ w : World, Calls Tryd.prog 15 #[.string t] w fun e w' => e = .returned (.bool true) ∧ w = w' := fun w => void_is _ true w (by omega) (Lib.hid (decide_eq_true (lexes_end HL.out rfl [] rfl).1))
      simp only [List.length_nil] at C1
      go_enter Tryd.func7, Tryd.ntmps7
      go_wp2_with (first | (go_at_call 10; refine (head10_is _ (TB.out _ (Below.refl _ _))).mono ?_; rintro e' W1 ⟨rfl, hb⟩; have B1 := Lib.hid hb; clear hb) | (go_at_call 11; with_reducible refine (FC _).mono ?_; rintro e' w' ⟨rfl, rfl⟩) | (go_at_call 12; with_reducible refine (C1 _ B1.out).mono ?_; rintro e' W2 ⟨⟨ao, ca, rfl, hc1, hc2, hr⟩, hb⟩; have R2 := Lib.hid hr; have KR2 := Lib.hid (And.intro hc1 hc2); have B2 := Lib.hid (belT B1.out hb); clear hr hb hc1 hc2) | (go_at_call 15; refine (VC _).mono ?_; rintro e' w' ⟨rfl, rfl⟩))
      go_ret
      exact ⟨rfl, B2.out⟩
    have hn0 : 0 < ts.length := by cases ts with | nil => exact absurd rfl h0 | cons x l => simp
    clear h0
    obtain ⟨n, hn⟩ : ∃ n, ts.length = n := ⟨_, rfl⟩
    rw [hn] at C1 tl hn0
    obtain ⟨j, hj⟩ : ∃ j : Nat, n1 % (n : Int) = (j : Int) := ⟨(n1 % (n : Int)).toNat, by have := Int.emod_nonneg n1 (b := (n : Int)) (by omega); omega⟩
    have hjn : j < n := by have := Int.emod_lt_of_pos n1 (b := (n : Int)) (by omega); omega
    have hj2 : n1.tmod (n : Int) = (j : Int) := by rw [Int.tmod_eq_emod_of_nonneg nb.1, hj]
    have hjt : j < ts.length := by omega
    have TR := lexes_trunc HL.out j hjt
    obtain ⟨k, x, a, hx⟩ := getD_split ts j
    rw [hx] at TR
    simp only [endT, Nat.zero_add, Nat.sub_zero, bl_len] at TR
    have HZ := bsA_size x
    obtain ⟨u, hu⟩ : ∃ u, bsA x = u := ⟨_, rfl⟩
    rw [hu] at HZ
    rw [← HZ] at TR
    obtain ⟨z, hz⟩ : ∃ z, a + u.size = z := ⟨_, rfl⟩
    rw [hz] at TR
    have hzs : z ≤ t.size := TR.2.1
    have ht1 : (ts.take (j + 1)).length = j + 1 := by rw [List.length_take]; omega
    have C2 := fun wv hwv => lex_ok (t.extract 0 z) (ts.take (j + 1)) wv (TB.out wv hwv) (by rw [ByteArray.size_extract]; omega) (Lib.hid (by rw [bl_to]; exact TR.2.2))
    rw [ht1] at C2
    have HN := Lib.hid hn
    have HT1 := Lib.hid ht1
    have HX := Lib.hid hx
    have HU := Lib.hid hu
    have zz : (a : Int) + (u.size : Int) = (z : Int) := by omega
    have n0 : ¬ (n : Int) = 0 := by omega
    have n0' : ((n : Int) == 0) = false := by simp; omega
    have hji : (j : Int) < n := by omega
    have zt : ¬ (t.size : Int) < z := by omega
    clear TR hn hx hu HZ hz ht1 hjt
    go_enter Tryd.func7, Tryd.ntmps7
    go_wp2_with (first | (go_at_call 10; refine (head10_is _ (TB.out _ (Below.refl _ _))).mono ?_; rintro e' W1 ⟨rfl, hb⟩; have B1 := Lib.hid hb; clear hb) | (go_at_call 11; with_reducible refine (FC _).mono ?_; rintro e' w' ⟨rfl, rfl⟩) | (go_at_call 12; with_reducible refine (C1 _ B1.out).mono ?_; rintro e' W2 ⟨⟨ao, ca, rfl, hc1, hc2, hr⟩, hb⟩; have R2 := Lib.hid hr; have KR2 := Lib.hid (And.intro hc1 hc2); have B2 := Lib.hid (belT B1.out hb); clear hr hb hc1 hc2; refine Hid.out ?_))
    refine Lib.hid ?_
    have hjt : j < ts.length := by rw [HN.out]; exact hjn
    obtain ⟨b, o, rfl, c1, c2, c3⟩ := R2.out j hjt
    rw [HX.out] at c1 c2 c3
    simp only [HU.out] at c1 c2 c3
    clear hjt c1
    go_upto_region 13 with fail
    obtain ⟨sp, hsp⟩ : ∃ sp : ToldS, sp = [none, none, none, none, none, none, none, none, none, none, none, none, none, none, none, none, none, some (eqS (.int .i64 z)), none, none, none, none, none, none, none, none, none, none, none, none, none, none, none, none, none, none, none, none, none, none, none, none, none, none, none, none, none, none, none, none, none, none, none, none, none, none, none, none, none, none, none, none, none, none, none, none, none, none, none, none, none, none, none, none, none, none, none, none, none, none, none, none, some (eqS (.slice (some ⟨b, o, none⟩) n ca)), some (eqS (.int .i64 j)), some (eqS (.pointer (some ⟨b, o + j * 3, none⟩))), some (eqS (.pointer (some ⟨b, o + j * 3 + 2, none⟩))), some (eqS (.int .i64 a)), some (eqS (.slice (some ⟨b, o, none⟩) n ca)), some (eqS (.int .i64 j)), some (eqS (.pointer (some ⟨b, o + j * 3, none⟩))), some (eqS (.pointer (some ⟨b, o + j * 3 + 1, none⟩))), some (eqS (.string u)), some (eqS (.int .i64 u.size)), some (eqS (.int .i64 z))] := ⟨_, rfl⟩
    have s17 : sp.getD 17 none = some (eqS (.int .i64 z)) := by rw [hsp]; rfl
    have s82 : sp.getD 82 none = some (eqS (.slice (some ⟨b, o, none⟩) n ca)) := by rw [hsp]; rfl
    have s83 : sp.getD 83 none = some (eqS (.int .i64 j)) := by rw [hsp]; rfl
    have s84 : sp.getD 84 none = some (eqS (.pointer (some ⟨b, o + j * 3, none⟩))) := by rw [hsp]; rfl
    have s85 : sp.getD 85 none = some (eqS (.pointer (some ⟨b, o + j * 3 + 2, none⟩))) := by rw [hsp]; rfl
    have s86 : sp.getD 86 none = some (eqS (.int .i64 a)) := by rw [hsp]; rfl
    have s87 : sp.getD 87 none = some (eqS (.slice (some ⟨b, o, none⟩) n ca)) := by rw [hsp]; rfl
    have s88 : sp.getD 88 none = some (eqS (.int .i64 j)) := by rw [hsp]; rfl
    have s89 : sp.getD 89 none = some (eqS (.pointer (some ⟨b, o + j * 3, none⟩))) := by rw [hsp]; rfl
    have s90 : sp.getD 90 none = some (eqS (.pointer (some ⟨b, o + j * 3 + 1, none⟩))) := by rw [hsp]; rfl
    have s91 : sp.getD 91 none = some (eqS (.string u)) := by rw [hsp]; rfl
    have s92 : sp.getD 92 none = some (eqS (.int .i64 u.size)) := by rw [hsp]; rfl
    have s93 : sp.getD 93 none = some (eqS (.int .i64 z)) := by rw [hsp]; rfl
    clear hsp
    refine (wpIn_wide (n := 0)).1 (region_allR (RtS sp) (rtS_keep sp) rfl rfl rfl (by kernel_rfl) (by kernel_rfl) (by kernel_rfl) ?_ ?_)
    · intro Q'
      refine obsR_cons ?_ ?_
      · intro T wx K hB hF hD hK
        have g7 : T[7]? = some (.slice (some ⟨b, o, none⟩) n ca) := hF 7 (freeM_of (by kernel_rfl))
        refine ob_yes (wanted_none rfl) ?_
        clear hF hD
        go_simp
        exact hK _ _ (Below.refl _ _) (rt_eqS s82)
      refine obsR_cons ?_ ?_
      · intro T wx K hB hF hD hK
        have g16 : T[16]? = some (.int .i64 j) := hF 16 (freeM_of (by kernel_rfl))
        refine ob_yes (wanted_none rfl) ?_
        clear hF hD
        go_simp
        exact hK _ _ (Below.refl _ _) (rt_eqS s83)
      refine obsR_cons ?_ ?_
      · intro T wx K hB hF hD hK
        have g82 := get_eqS (hD 0 82 (by simp [Region.binds]) (by kernel_rfl)) s82
        have g83 := get_eqS (hD 1 83 (by simp [Region.binds]) (by kernel_rfl)) s83
        refine ob_yes (wanted_none rfl) ?_
        clear hF hD
        go_simp
        exact hK _ _ (Below.refl _ _) (rt_eqS s84)
      refine obsR_cons ?_ ?_
      · intro T wx K hB hF hD hK
        have g84 := get_eqS (hD 2 84 (by simp [Region.binds]) (by kernel_rfl)) s84
        refine ob_yes (wanted_none rfl) ?_
        clear hF hD
        go_simp
        exact hK _ _ (Below.refl _ _) (rt_eqS s85)
      refine obsR_cons ?_ ?_
      · intro T wx K hB hF hD hK
        have g85 := get_eqS (hD 3 85 (by simp [Region.binds]) (by kernel_rfl)) s85
        refine ob_yes (wanted_none rfl) ?_
        clear hF hD
        have cx := (hB.cell (World.block_lt_of_cell? _ _ c3)).trans c3
        go_simp
        exact hK _ _ (Below.refl _ _) (rt_eqS s86)
      refine obsR_cons ?_ ?_
      · intro T wx K hB hF hD hK
        have g7 : T[7]? = some (.slice (some ⟨b, o, none⟩) n ca) := hF 7 (freeM_of (by kernel_rfl))
        refine ob_yes (wanted_none rfl) ?_
        clear hF hD
        go_simp
        exact hK _ _ (Below.refl _ _) (rt_eqS s87)
      refine obsR_cons ?_ ?_
      · intro T wx K hB hF hD hK
        have g16 : T[16]? = some (.int .i64 j) := hF 16 (freeM_of (by kernel_rfl))
        refine ob_yes (wanted_none rfl) ?_
        clear hF hD
        go_simp
        exact hK _ _ (Below.refl _ _) (rt_eqS s88)
      refine obsR_cons ?_ ?_
      · intro T wx K hB hF hD hK
        have g87 := get_eqS (hD 5 87 (by simp [Region.binds]) (by kernel_rfl)) s87
        have g88 := get_eqS (hD 6 88 (by simp [Region.binds]) (by kernel_rfl)) s88
        refine ob_yes (wanted_none rfl) ?_
        clear hF hD
        go_simp
        exact hK _ _ (Below.refl _ _) (rt_eqS s89)
      refine obsR_cons ?_ ?_
      · intro T wx K hB hF hD hK
        have g89 := get_eqS (hD 7 89 (by simp [Region.binds]) (by kernel_rfl)) s89
        refine ob_yes (wanted_none rfl) ?_
        clear hF hD
        go_simp
        exact hK _ _ (Below.refl _ _) (rt_eqS s90)
      refine obsR_cons ?_ ?_
      · intro T wx K hB hF hD hK
        have g90 := get_eqS (hD 8 90 (by simp [Region.binds]) (by kernel_rfl)) s90
        refine ob_yes (wanted_none rfl) ?_
        clear hF hD
        have cx := (hB.cell (World.block_lt_of_cell? _ _ c2)).trans c2
        go_simp
        exact hK _ _ (Below.refl _ _) (rt_eqS s91)
      refine obsR_cons ?_ ?_
      · intro T wx K hB hF hD hK
        have g91 := get_eqS (hD 9 91 (by simp [Region.binds]) (by kernel_rfl)) s91
        refine ob_yes (wanted_none rfl) ?_
        clear hF hD
        go_simp
        exact hK _ _ (Below.refl _ _) (rt_eqS s92)
      refine obsR_cons ?_ ?_
      · intro T wx K hB hF hD hK
        have g86 := get_eqS (hD 4 86 (by simp [Region.binds]) (by kernel_rfl)) s86
        have g92 := get_eqS (hD 10 92 (by simp [Region.binds]) (by kernel_rfl)) s92
        refine ob_yes (wanted_none rfl) ?_
        clear hF hD
        go_simp
        first | exact hK _ _ (Below.refl _ _) (rt_eqS s93) | exact hK _ _ (Below.refl _ _) (rt_eqS' s93 (congrArg (Value.int .i64) (wrap_k _ (by omega))))
      refine obsR_cons ?_ ?_
      · intro T wx K hB hF hD hK
        have g93 := get_eqS (hD 11 93 (by simp [Region.binds]) (by kernel_rfl)) s93
        refine ob_yes (wanted_none rfl) ?_
        clear hF hD
        go_simp
        exact hK _ _ (Below.refl _ _) (rt_eqS s17)
      exact obsR_nil
    · intro Ty Wy hb8 hF hs hD
      have g82 := get_eqS (hD 0 82 (by decide) (by kernel_rfl)) s82
      have g83 := get_eqS (hD 1 83 (by decide) (by kernel_rfl)) s83
      have g84 := get_eqS (hD 2 84 (by decide) (by kernel_rfl)) s84
      have g85 := get_eqS (hD 3 85 (by decide) (by kernel_rfl)) s85
      have g86 := get_eqS (hD 4 86 (by decide) (by kernel_rfl)) s86
      have g87 := get_eqS (hD 5 87 (by decide) (by kernel_rfl)) s87
      have g88 := get_eqS (hD 6 88 (by decide) (by kernel_rfl)) s88
      have g89 := get_eqS (hD 7 89 (by decide) (by kernel_rfl)) s89
      have g90 := get_eqS (hD 8 90 (by decide) (by kernel_rfl)) s90
      have g91 := get_eqS (hD 9 91 (by decide) (by kernel_rfl)) s91
      have g92 := get_eqS (hD 10 92 (by decide) (by kernel_rfl)) s92
      have g93 := get_eqS (hD 11 93 (by decide) (by kernel_rfl)) s93
      have g17 := get_eqS (hD 12 17 (by decide) (by kernel_rfl)) s17
      have hT9 := conc [(82, .slice (some ⟨b, o, none⟩) n ca), (83, .int .i64 j), (84, .pointer (some ⟨b, o + j * 3, none⟩)), (85, .pointer (some ⟨b, o + j * 3 + 2, none⟩)), (86, .int .i64 a), (87, .slice (some ⟨b, o, none⟩) n ca), (88, .int .i64 j), (89, .pointer (some ⟨b, o + j * 3, none⟩)), (90, .pointer (some ⟨b, o + j * 3 + 1, none⟩)), (91, .string u), (92, .int .i64 u.size), (93, .int .i64 z), (17, .int .i64 z)] hs hF (by simp only [List.forall_mem_cons]; exact ⟨g82, g83, g84, g85, g86, g87, g88, g89, g90, g91, g92, g93, g17, fun p hp => absurd hp List.not_mem_nil⟩) (by kernel_rfl)
      simp only [List.foldl, List.setIfInBounds_toArray, List.set_cons_succ, List.set_cons_zero] at hT9
      subst hT9
      clear hF hD hs g82 g83 g84 g85 g86 g87 g88 g89 g90 g91 g92 g93 g17 s17 s82 s83 s84 s85 s86 s87 s88 s89 s90 s91 s92 s93
      have R3 := Lib.hid (trow_below R2.out hb8)
      have B3 := Lib.hid (belT B2.out hb8)
      clear hb8 c2 c3
      have jc : j + 1 ≤ ca := by have := KR2.out.1; omega
      have jc' : (j : Int) + 1 ≤ ca := by omega
      have cm : ca ≤ 9223372036854775807 := KR2.out.2
      have hl0 : (ts.take (j + 1)).length = j + 1 := HT1.out
      have LT : Hid ((ts.take (j + 1)).length ≤ 1000000) := Lib.hid (by rw [hl0]; omega)
      go_wp2_with (first | (go_at_call 12; with_reducible refine (C2 _ B3.out).mono ?_; rintro e' W5 ⟨⟨bo, cb, rfl, hc1, hc2, hr⟩, hb⟩; have R5 := Lib.hid hr; have KR5 := Lib.hid (And.intro hc1 hc2); have B5 := Lib.hid (belT B3.out hb); have R6 := Lib.hid (trow_take (trow_below R3.out hb) (j + 1)); clear hr hb hc1 hc2) | (go_at_call 14; refine (sameT_is bo (some ⟨b, o, none⟩) (j + 1) (j + 1) cb ca (ts.take (j + 1)) (ts.take (j + 1)) true _ HT1.out HT1.out (Lib.hid (decide_eq_true rfl)) LT.out LT.out R5.out R6.out).mono ?_; rintro e' W6 ⟨rfl, hb⟩; have B6 := Lib.hid (belT B5.out hb); clear hb))
      go_ret
      exact ⟨rfl, B6.out⟩

set_option maxRecDepth 100000 in
theorem lifted (os : Os) (started : os.Started) (H : Type) (enc : TypeId × Value → H) :
    ReturnsInHanded {} Tryd.checked os 7 .any (fun w args => (Rows.lexerFirstErrorSpec.pre enc Tryd.prog Tryd.f7 [] false w args ∧ laidMetH Tryd.prog Rows.lexerFirstErrorRow.laid w) ∧ sizedMet enc Tryd.prog Tryd.f7 (OpenSpec.ofChange Rows.lexerFirstErrorSpec) false w args)
      (Rows.lexerFirstErrorSpec.post enc Tryd.prog Tryd.f7 false true false false) := by
  refine returnsInHanded_of_change_and (C := Tryd.checked) (X := fun w _ => laidMetH Tryd.prog Rows.lexerFirstErrorRow.laid w) (fun _ _ _ hh h => h.of_heap hh) own started (by kernel_rfl) Tryd.func7
    (ChangeSpec.witness_shaped (enc := enc) (C := Tryd.checked) (os := os) (X := fun w _ => laidMetH Tryd.prog Rows.lexerFirstErrorRow.laid w) false (World.doorLaid Tryd.prog 600 os) #[.string ⟨#[]⟩, .int .u8 0] 8 rfl (World.shaped_of_RefB (by kernel_rfl) (by kernel_rfl)) (by kernel_rfl) (by kernel_rfl) (by kernel_rfl) (show laidMetH Tryd.prog [(qn, Rows.laid_ambidexter_lexer_classes)] _ from door_met os _)) ?_
  intro W base args ds gs before hval0 hW _ _ hL _
  have hval : ∀ (j : Nat) t v, Tryd.f7.params[j]? = some t → args[j]? = some v → Value.okWide Tryd.prog W .any base t v := hval0
  have hW' := hW
  obtain ⟨p, q, hA0, hV, rfl, hfz, hnd⟩ := hW
  have hA : DataW.TrodAll enc Tryd.prog W 0 (fun _ => true) true Tryd.f7.params.toList args.toList ds p := hA0
  rw [Tryd.params7] at hA hval
  obtain ⟨v0, vs0, d0, ds0, p0, q0, hargs, rfl, rfl, h0, r0⟩ := trodAll_cons hA
  obtain ⟨v1, vs1, d1, ds1, p1, q1, rfl, rfl, rfl, h1, r1⟩ := trodAll_cons r0
  obtain ⟨rfl, rfl, rfl⟩ := trodAll_nil r1
  obtain rfl : args = #[v0, v1] := by cases args; simp_all
  obtain ⟨rfl, rfl⟩ := trodVars_none hV
  obtain ⟨a0, rfl, rfl, rfl, w0⟩ := Go.ChangeMaps.open_string Tryd.underlying9 (hval 0 9 v0 rfl rfl) h0
  obtain ⟨a1, rfl, rfl, rfl, w1⟩ := open_int Tryd.underlying5 (hval 1 5 v1 rfl rfl) h1
  clear hA0 hval0
  simp only [List.append_nil] at hW'
  refine (walk (w := W) (hTab := tab_of_laid hL) a0 w0 a1 w1).mono fun e W' ⟨he, bel⟩ => ?_
  subst he
  exact ⟨_, rfl, _, _, _, [], _, [], hW', trodAll_mk1 (shut_bool Tryd.underlying4 _), (trodAll_cons_mk (Go.ChangeMaps.shut_string Tryd.underlying9 w0) (trodAll_cons_mk (shut_int Tryd.underlying5 w1) trodAll_mk0)), rfl, bel.frame _, fun h => by cases h⟩

theorem holds : Rows.LexerFirstErrorSaid :=
  OpenClaim.holds_of_wide 7 Tryd.f7 rfl rfl rfl rfl rfl rfl rfl ⟨rfl, rfl, rfl, rfl, rfl⟩ rfl rfl rfl rfl rfl (by kernel_rfl) Tryd.func7 (by kernel_rfl)
    (of_decide_eq_true (by kernel_rfl)) (by unfold Func.isWrapper; first | (rw [if_pos (by decide +kernel)]; kernel_rfl) | (rw [if_neg (by decide +kernel)]; exact ⟨rfl, rfl⟩))
    (fun os started H enc _ => lifted os started H enc)

/-- THE STATEMENT: the tied card. -/
theorem card_holds : Rows.LexerFirstErrorCardSaid :=
  Claim7.holds_tied_plain_at .later [] [.data] true Rows.lexerFirstErrorCard.stood.harness false
    holds (fun _ h => by cases h) (by kernel_rfl) (fun _ h => by cases h) lexerFirstError_row_tie rfl ⟨rfl, rfl⟩ (by kernel_rfl) rfl
    (fun f fn hf hfn => by
      obtain rfl : f = 7 := Option.some.inj ((show Tryd.prog.funcNamed Rows.lexerFirstErrorRow.func = some 7 by kernel_rfl).symm.trans hf) |>.symm
      obtain rfl : fn = Tryd.f7 := (Option.some.inj (Tryd.func7.symm.trans hfn)).symm
      exact ⟨by kernel_rfl, fun j t ht => by
        rw [Tryd.params7] at ht
        have hm : t ∈ [9, 5] := by have := Array.mem_of_getElem? ht; simp only [List.mem_toArray, List.mem_cons, List.not_mem_nil, or_false] at this ⊢; grind
        have hall : ([9, 5].all fun u => !Tryd.prog.wantsStandIn u) = true := by kernel_rfl
        exact (show Tryd.prog.wantsStandIn t = false by simpa using List.all_eq_true.1 hall t hm)⟩)
    (by kernel_rfl)
#print axioms card_holds
end Go.Proofs.YtfimejmmcfdgaaaDoor.lexerFirstError
