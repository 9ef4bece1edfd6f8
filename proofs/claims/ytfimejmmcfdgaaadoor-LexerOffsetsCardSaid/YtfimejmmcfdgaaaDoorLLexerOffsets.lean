/- Every token occurs in the input at its offset, offsets increase, and only white space and comments occur between tokens (at most 2000 bytes).
Conditions: none on the arguments; the table of classes lies as the program's text lays it (the card's tie). -/
import Derived.Test.YtfimejmmcfdgaaaDoorLxM
import Derived.Test.YtfimejmmcfdgaaaDoorLxFr
import Derived.Test.YtfimejmmcfdgaaaDoorTie
import Derived.Test.YtfimejmmcfdgaaaDoorCards
import Derived.SevenTiedAt
namespace Go.Proofs.YtfimejmmcfdgaaaDoor.lexerOffsets
open Go.ChangeShapes Go.WideShapes Go.ChangeAt Go.RowKit
set_option linter.unusedVariables false
set_option linter.unusedSimpArgs false
set_option maxRecDepth 100000
theorem getD_split (ts : List Tok) (i : Nat) : ∃ k t a, ts.getD i tok0 = (k, t, a) := ⟨_, _, _, rfl⟩
set_option maxHeartbeats 8000000 in
theorem walk (s : ByteArray) (hs : s.size ≤ maxLen) (w : World) (hTab : Tab w) :
    Calls Tryd.prog 4 #[.string s] w fun e w' => e = .returned (.bool true) ∧ Below w.heap.size w w' := by
  have TB : Hid (∀ v, Below w.heap.size w v → Tab v) := Lib.hid fun v h => hTab.below h
  clear hTab
  have FC := fun w => few_is s w hs
  have fz := fewB_size s
  generalize fewB s = t at *
  obtain ⟨ts, o, h⟩ := lexes_ex 0 (bl t)
  have tl := toks_le h
  rw [bl_len] at tl
  have HL := Lib.hid h
  clear h hs
  cases o with
  | some p =>
    have C1 := fun wv hwv => lex_err t ts p wv (TB.out wv hwv) (by omega) HL
    have HP := lexes_cut HL.out rfl
    have hp : p < t.size := by have := HP.2.1; rw [bl_len] at this; omega
    have hp' : (p : Int) < t.size := by omega
    clear HP
    go_enter Tryd.func4, Tryd.ntmps4
    go_wp2_with (first | (go_at_call 10; refine (head10_is _ (TB.out _ (Below.refl _ _))).mono ?_; rintro e' W1 ⟨rfl, hb⟩; have B1 := Lib.hid hb; clear hb) | (go_at_call 11; refine (FC _).mono ?_; rintro e' w' ⟨rfl, rfl⟩) | (go_at_call 12; refine (C1 _ B1.out).mono ?_; rintro e' W2 ⟨rfl, hb⟩; have B2 := Lib.hid (belT B1.out hb); clear hb))
    go_ret
    exact ⟨rfl, B2.out⟩
  | none =>
    have C1 := fun wv hwv => lex_ok t ts wv (TB.out wv hwv) (by omega) HL
    have HO := Lib.hid (fun i hi => lexes_offs HL.out [] rfl i hi)
    have HE := Lib.hid (lexes_end HL.out rfl [] rfl)
    have f0 : Hid (fromT 0 ts 0 = 0) := Lib.hid rfl
    obtain ⟨n, hn⟩ : ∃ n, ts.length = n := ⟨_, rfl⟩
    have HN := Lib.hid hn
    rw [hn] at C1 tl
    clear hn
    go_enter Tryd.func4, Tryd.ntmps4
    go_wp2_with (first | (go_at_call 10; refine (head10_is _ (TB.out _ (Below.refl _ _))).mono ?_; rintro e' W1 ⟨rfl, hb⟩; have B1 := Lib.hid hb; clear hb) | (go_at_call 11; refine (FC _).mono ?_; rintro e' w' ⟨rfl, rfl⟩) | (go_at_call 12; refine (C1 _ B1.out).mono ?_; rintro e' W2 ⟨⟨ao, ca, rfl, -, -, hr⟩, hb⟩; have R1 := Lib.hid hr; have B2 := Lib.hid (belT B1.out hb); clear hr hb))
    go_loopw [9, 8] (fun i f wr => ∃ j : Nat, j ≤ n ∧ i = .int .i64 j ∧ (∃ q : Nat, f = .int .i64 q ∧ Hid (fromT 0 ts j = q)) ∧ Hid (Below W2.heap.size W2 wr)) (fun i _ _ => n - (intOf i).toNat)
    case atStart => exact ⟨0, Nat.zero_le _, rfl, ⟨0, rfl, f0⟩, Lib.hid (Below.refl _ _)⟩
    case round =>
      obtain ⟨j, hj, rfl, ⟨q, rfl, hq⟩, HB⟩ := hrel
      have RR := Lib.hid (trow_below R1.out HB.out)
      have BB := Lib.hid (belT B2.out HB.out)
      by_cases hlt : j < n
      rotate_left
      · have hje : j = n := by omega
        have hlt' : ¬ (j : Int) < n := by omega
        have e1 := HE.out
        rw [HN.out, ← hje, hq.out, List.nil_append, Nat.zero_add, bl_len] at e1
        have hqs : q ≤ t.size := e1.2
        have VC : ∀ w : World, Calls Tryd.prog 15 #[.string (t.extract q t.size)] w fun e w' => e = .returned (.bool true) ∧ w = w' := fun w => void_is _ true w (by rw [ByteArray.size_extract]; omega) (Lib.hid (decide_eq_true (by rw [bl_ext]; exact e1.1)))
        clear hje e1 hq
        go_wp2_with (go_at_call 15; refine (VC _).mono ?_; rintro e' w' ⟨rfl, rfl⟩)
        go_ret
        exact ⟨rfl, BB.out⟩
      have hjt : j < ts.length := by rw [HN.out]; exact hlt
      obtain ⟨b, o, rfl, c1, c2, c3⟩ := RR.out j hjt
      have O1 := HO.out j hjt
      have Q1 : Hid (fromT 0 ts (j + 1) = endT (ts.getD j tok0)) := Lib.hid rfl
      rw [hq.out] at O1
      obtain ⟨k, x, a, hx⟩ := getD_split ts j
      rw [hx] at c1 c2 c3 O1 Q1
      simp only [List.nil_append, Nat.zero_add, endT, bl_len] at c1 c2 c3 O1 Q1
      obtain ⟨o1, o2, o3, o4, o5, o6⟩ := O1
      have HU := Lib.hid (bl_bsA x)
      have HZ := bsA_size x
      obtain ⟨u, hu⟩ : ∃ u, bsA x = u := ⟨_, rfl⟩
      rw [hu] at c2 HU HZ
      rw [← HZ] at o3 o5 Q1
      have hu0 : 1 ≤ u.size := by rw [HZ]; cases x with | nil => exact absurd rfl o2 | cons c x => simp
      have hul : (u.toList == ([] : List UInt8)) = false := by
        rw [ByteArray.toList_eq, show u.data.toList = bl u from rfl, HU.out]
        cases x with
        | nil => exact absurd rfl o2
        | cons c x => rfl
      have hue : u.toList ≠ [] := by simpa using hul
      have hxu : t.extract a (a + u.size) = u := by
        rw [← HU.out] at o5
        rw [ext_bsA t a (a + u.size) (t := bl u) (by rw [Nat.add_sub_cancel_left]; exact o5), bsA_bl]
      have hv : gapL false (bl (t.extract q a)) = [] := by rw [bl_sub]; exact o6
      obtain ⟨z, hz⟩ : ∃ z, a + u.size = z := ⟨_, rfl⟩
      have sl1 : ∀ w : World, (Instr.slice 9 (.string t) (some (.int .i64 (a : Int))) (some (.int .i64 (z : Int))) none).run Tryd.prog w = .ok (.string u) w := fun w => by
        rw [run_slice_string (P := Tryd.prog) w 9 t .i64 .i64 a z Tryd.underlying9 (by omega) (by omega) (by omega), Int.toNat_natCast, Int.toNat_natCast, ← hz, hxu]
      have sl2 : ∀ w : World, (Instr.slice 9 (.string t) (some (.int .i64 (q : Int))) (some (.int .i64 (a : Int))) none).run Tryd.prog w = .ok (.string (t.extract q a)) w := fun w => by
        rw [run_slice_string (P := Tryd.prog) w 9 t .i64 .i64 q a Tryd.underlying9 (by omega) (by omega) (by omega), Int.toNat_natCast, Int.toNat_natCast]
      have hzs : z ≤ t.size := by omega
      have VC : ∀ w : World, Calls Tryd.prog 15 #[.string (t.extract q a)] w fun e w' => e = .returned (.bool true) ∧ w = w' := fun w => void_is _ true w (by rw [ByteArray.size_extract]; omega) (Lib.hid (decide_eq_true hv))
      generalize t.extract q a = v at *
      have HQ2 : Hid (fromT 0 ts (j + 1) = z) := Lib.hid (Q1.out.trans hz)
      have zz : (a : Int) + (u.size : Int) = (z : Int) := by omega
      have qa : ¬ (a : Int) < q := by omega
      have zt : ¬ (t.size : Int) < z := by omega
      have k1 : ¬ (k : Int) < 1 := by omega
      have k3 : ¬ (3 : Int) < k := by omega
      have hji : (j : Int) < n := by omega
      clear hx hu o2 o3 o5 o6 HU HZ hxu hv hz Q1 hq
      go_upto_region 14 with fail
      have HX := Lib.hid (blk_new wr (.cells #[.int .i64 k, .string u, .int .i64 a] 31) _ rfl)
      have B3 := Lib.hid (belA HB.out (.cells #[.int .i64 k, .string u, .int .i64 a] 31))
      obtain ⟨bx, hbx⟩ : ∃ x, wr.heap.size = x := ⟨_, rfl⟩
      rw [hbx] at HX ⊢
      clear hbx
      generalize wr.alloc (.cells #[.int .i64 k, .string u, .int .i64 a] 31) = Wx at *
      obtain ⟨sp, hsp⟩ : ∃ sp : ToldS, sp = [none, none, none, none, none, none, none, none, none, none, none, none, none, none, none, none, none, none, none, none, none, none, none, none, none, none, none, none, none, none, none, none, none, none, none, none, none, none, none, none, none, none, none, none, none, none, none, none, none, none, none, none, none, none, none, none, none, none, none, none, none, none, none, none, none, none, none, none, none, none, none, none, none, none, none, none, none, none, none, none, none, none, none, none, some (eqS (.string t)), some (eqS (.pointer (some ⟨bx, 2, none⟩))), some (eqS (.int .i64 a)), some (eqS (.int .i64 z)), some (eqS (.string u)), some (eqS (.pointer (some ⟨bx, 1, none⟩))), some (eqS (.string u)), some (eqS (.bool false)), some (eqS (.bool false)), some (eqS (.string t)), some (eqS (.int .i64 q)), some (eqS (.pointer (some ⟨bx, 2, none⟩))), some (eqS (.int .i64 a)), some (eqS (.string v)), some (eqS (.bool true)), some (eqS (.bool false)), some (eqS (.bool false))] := ⟨_, rfl⟩
      have s84 : sp.getD 84 none = some (eqS (.string t)) := by rw [hsp]; rfl
      have s85 : sp.getD 85 none = some (eqS (.pointer (some ⟨bx, 2, none⟩))) := by rw [hsp]; rfl
      have s86 : sp.getD 86 none = some (eqS (.int .i64 a)) := by rw [hsp]; rfl
      have s87 : sp.getD 87 none = some (eqS (.int .i64 z)) := by rw [hsp]; rfl
      have s88 : sp.getD 88 none = some (eqS (.string u)) := by rw [hsp]; rfl
      have s89 : sp.getD 89 none = some (eqS (.pointer (some ⟨bx, 1, none⟩))) := by rw [hsp]; rfl
      have s90 : sp.getD 90 none = some (eqS (.string u)) := by rw [hsp]; rfl
      have s91 : sp.getD 91 none = some (eqS (.bool false)) := by rw [hsp]; rfl
      have s92 : sp.getD 92 none = some (eqS (.bool false)) := by rw [hsp]; rfl
      have s93 : sp.getD 93 none = some (eqS (.string t)) := by rw [hsp]; rfl
      have s94 : sp.getD 94 none = some (eqS (.int .i64 q)) := by rw [hsp]; rfl
      have s95 : sp.getD 95 none = some (eqS (.pointer (some ⟨bx, 2, none⟩))) := by rw [hsp]; rfl
      have s96 : sp.getD 96 none = some (eqS (.int .i64 a)) := by rw [hsp]; rfl
      have s97 : sp.getD 97 none = some (eqS (.string v)) := by rw [hsp]; rfl
      have s98 : sp.getD 98 none = some (eqS (.bool true)) := by rw [hsp]; rfl
      have s99 : sp.getD 99 none = some (eqS (.bool false)) := by rw [hsp]; rfl
      have s100 : sp.getD 100 none = some (eqS (.bool false)) := by rw [hsp]; rfl
      clear hsp
      refine (wpIn_wide (n := 0)).1 (region_allR (RtS sp) (rtS_keep sp) rfl rfl rfl (by kernel_rfl) (by kernel_rfl) (by kernel_rfl) ?_ ?_)
      · intro Q'
        refine obsR_cons ?_ ?_
        · intro T wx K hB hF hD hK
          have g4 : T[4]? = some (.string t) := hF 4 (freeM_of (by kernel_rfl))
          refine ob_yes (wanted_none rfl) ?_
          clear hF hD
          go_simp
          exact hK _ _ (Below.refl _ _) (rt_eqS s84)
        refine obsR_cons ?_ ?_
        · intro T wx K hB hF hD hK
          have g10 : T[10]? = some (.pointer (some ⟨bx, 0, none⟩)) := hF 10 (freeM_of (by kernel_rfl))
          refine ob_yes (wanted_none rfl) ?_
          clear hF hD
          go_simp
          exact hK _ _ (Below.refl _ _) (rt_eqS s85)
        refine obsR_cons ?_ ?_
        · intro T wx K hB hF hD hK
          have g85 := get_eqS (hD 1 85 (by simp [Region.binds]) (by kernel_rfl)) s85
          refine ob_yes (wanted_none rfl) ?_
          clear hF hD
          have cx := blk_cell (blk_call HX.out hB) 2 _ rfl
          go_simp
          exact hK _ _ (Below.refl _ _) (rt_eqS s86)
        refine obsR_cons ?_ ?_
        · intro T wx K hB hF hD hK
          have g11 : T[11]? = some (.int .i64 z) := hF 11 (freeM_of (by kernel_rfl))
          refine ob_yes (wanted_none rfl) ?_
          clear hF hD
          go_simp
          exact hK _ _ (Below.refl _ _) (rt_eqS s87)
        refine obsR_cons ?_ ?_
        · intro T wx K hB hF hD hK
          have g84 := get_eqS (hD 0 84 (by simp [Region.binds]) (by kernel_rfl)) s84
          have g86 := get_eqS (hD 2 86 (by simp [Region.binds]) (by kernel_rfl)) s86
          have g87 := get_eqS (hD 3 87 (by simp [Region.binds]) (by kernel_rfl)) s87
          refine ob_yes (wanted_none rfl) ?_
          clear hF hD
          go_simp
          exact hK _ _ (Below.refl _ _) (rt_eqS s88)
        refine obsR_cons ?_ ?_
        · intro T wx K hB hF hD hK
          have g10 : T[10]? = some (.pointer (some ⟨bx, 0, none⟩)) := hF 10 (freeM_of (by kernel_rfl))
          refine ob_yes (wanted_none rfl) ?_
          clear hF hD
          go_simp
          exact hK _ _ (Below.refl _ _) (rt_eqS s89)
        refine obsR_cons ?_ ?_
        · intro T wx K hB hF hD hK
          have g89 := get_eqS (hD 5 89 (by simp [Region.binds]) (by kernel_rfl)) s89
          refine ob_yes (wanted_none rfl) ?_
          clear hF hD
          have cx := blk_cell (blk_call HX.out hB) 1 _ rfl
          go_simp
          exact hK _ _ (Below.refl _ _) (rt_eqS s90)
        refine obsR_cons ?_ ?_
        · intro T wx K hB hF hD hK
          have g88 := get_eqS (hD 4 88 (by simp [Region.binds]) (by kernel_rfl)) s88
          have g90 := get_eqS (hD 6 90 (by simp [Region.binds]) (by kernel_rfl)) s90
          refine ob_yes (wanted_none rfl) ?_
          clear hF hD
          go_simp
          exact hK _ _ (Below.refl _ _) (rt_eqS s91)
        refine obsR_cons ?_ ?_
        · intro T wx K hB hF hD hK
          have g91 := get_eqS (hD 7 91 (by simp [Region.binds]) (by kernel_rfl)) s91
          refine ob_yes (wanted_none rfl) ?_
          clear hF hD
          go_simp
          exact hK _ _ (Below.refl _ _) (rt_eqS s92)
        refine obsR_cons ?_ ?_
        · intro T wx K hB hF hD hK
          have g92 := get_eqS (hD 8 92 (by simp [Region.binds]) (by kernel_rfl)) s92
          have g4 : T[4]? = some (.string t) := hF 4 (freeM_of (by kernel_rfl))
          refine ob_yes (wanted_yes rfl (by kernel_rfl) g92) ?_
          clear hF hD
          go_simp
          exact hK _ _ (Below.refl _ _) (rt_eqS s93)
        refine obsR_cons ?_ ?_
        · intro T wx K hB hF hD hK
          have g92 := get_eqS (hD 8 92 (by simp [Region.binds]) (by kernel_rfl)) s92
          have g8 : T[8]? = some (.int .i64 q) := hF 8 (freeM_of (by kernel_rfl))
          refine ob_yes (wanted_yes rfl (by kernel_rfl) g92) ?_
          clear hF hD
          go_simp
          exact hK _ _ (Below.refl _ _) (rt_eqS s94)
        refine obsR_cons ?_ ?_
        · intro T wx K hB hF hD hK
          have g92 := get_eqS (hD 8 92 (by simp [Region.binds]) (by kernel_rfl)) s92
          have g10 : T[10]? = some (.pointer (some ⟨bx, 0, none⟩)) := hF 10 (freeM_of (by kernel_rfl))
          refine ob_yes (wanted_yes rfl (by kernel_rfl) g92) ?_
          clear hF hD
          go_simp
          exact hK _ _ (Below.refl _ _) (rt_eqS s95)
        refine obsR_cons ?_ ?_
        · intro T wx K hB hF hD hK
          have g92 := get_eqS (hD 8 92 (by simp [Region.binds]) (by kernel_rfl)) s92
          have g95 := get_eqS (hD 11 95 (by simp [Region.binds]) (by kernel_rfl)) s95
          refine ob_yes (wanted_yes rfl (by kernel_rfl) g92) ?_
          clear hF hD
          have cx := blk_cell (blk_call HX.out hB) 2 _ rfl
          go_simp
          exact hK _ _ (Below.refl _ _) (rt_eqS s96)
        refine obsR_cons ?_ ?_
        · intro T wx K hB hF hD hK
          have g92 := get_eqS (hD 8 92 (by simp [Region.binds]) (by kernel_rfl)) s92
          have g93 := get_eqS (hD 9 93 (by simp [Region.binds]) (by kernel_rfl)) s93
          have g94 := get_eqS (hD 10 94 (by simp [Region.binds]) (by kernel_rfl)) s94
          have g96 := get_eqS (hD 12 96 (by simp [Region.binds]) (by kernel_rfl)) s96
          refine ob_yes (wanted_yes rfl (by kernel_rfl) g92) ?_
          clear hF hD
          go_simp
          exact hK _ _ (Below.refl _ _) (rt_eqS s97)
        refine obsR_cons ?_ ?_
        · intro T wx K hB hF hD hK
          have g92 := get_eqS (hD 8 92 (by simp [Region.binds]) (by kernel_rfl)) s92
          have g97 := get_eqS (hD 13 97 (by simp [Region.binds]) (by kernel_rfl)) s97
          refine ob_yes (wanted_yes rfl (by kernel_rfl) g92) ?_
          clear hF hD
          go_simp
          refine (VC _).mono ?_; rintro e w9 ⟨rfl, rfl⟩
          exact hK _ _ (Below.refl _ _) (rt_eqS s98)
        refine obsR_cons ?_ ?_
        · intro T wx K hB hF hD hK
          have g92 := get_eqS (hD 8 92 (by simp [Region.binds]) (by kernel_rfl)) s92
          have g98 := get_eqS (hD 14 98 (by simp [Region.binds]) (by kernel_rfl)) s98
          refine ob_yes (wanted_yes rfl (by kernel_rfl) g92) ?_
          clear hF hD
          go_simp
          exact hK _ _ (Below.refl _ _) (rt_eqS s99)
        refine obsR_cons ?_ ?_
        · intro T wx K hB hF hD hK
          have g92 := get_eqS (hD 8 92 (by simp [Region.binds]) (by kernel_rfl)) s92
          have g99 := get_eqS (hD 15 99 (by simp [Region.binds]) (by kernel_rfl)) s99
          refine ob_yes (wanted_none rfl) ?_
          clear hF hD
          go_simp
          exact hK _ _ (Below.refl _ _) (rt_eqS s100)
        exact obsR_nil
      · intro Ty Wy hb8 hF hs hD
        have g84 := get_eqS (hD 0 84 (by decide) (by kernel_rfl)) s84
        have g85 := get_eqS (hD 1 85 (by decide) (by kernel_rfl)) s85
        have g86 := get_eqS (hD 2 86 (by decide) (by kernel_rfl)) s86
        have g87 := get_eqS (hD 3 87 (by decide) (by kernel_rfl)) s87
        have g88 := get_eqS (hD 4 88 (by decide) (by kernel_rfl)) s88
        have g89 := get_eqS (hD 5 89 (by decide) (by kernel_rfl)) s89
        have g90 := get_eqS (hD 6 90 (by decide) (by kernel_rfl)) s90
        have g91 := get_eqS (hD 7 91 (by decide) (by kernel_rfl)) s91
        have g92 := get_eqS (hD 8 92 (by decide) (by kernel_rfl)) s92
        have g93 := get_eqS (hD 9 93 (by decide) (by kernel_rfl)) s93
        have g94 := get_eqS (hD 10 94 (by decide) (by kernel_rfl)) s94
        have g95 := get_eqS (hD 11 95 (by decide) (by kernel_rfl)) s95
        have g96 := get_eqS (hD 12 96 (by decide) (by kernel_rfl)) s96
        have g97 := get_eqS (hD 13 97 (by decide) (by kernel_rfl)) s97
        have g98 := get_eqS (hD 14 98 (by decide) (by kernel_rfl)) s98
        have g99 := get_eqS (hD 15 99 (by decide) (by kernel_rfl)) s99
        have g100 := get_eqS (hD 16 100 (by decide) (by kernel_rfl)) s100
        have hT9 := conc [(84, .string t), (85, .pointer (some ⟨bx, 2, none⟩)), (86, .int .i64 a), (87, .int .i64 z), (88, .string u), (89, .pointer (some ⟨bx, 1, none⟩)), (90, .string u), (91, .bool false), (92, .bool false), (93, .string t), (94, .int .i64 q), (95, .pointer (some ⟨bx, 2, none⟩)), (96, .int .i64 a), (97, .string v), (98, .bool true), (99, .bool false), (100, .bool false)] hs hF (by simp only [List.forall_mem_cons]; exact ⟨g84, g85, g86, g87, g88, g89, g90, g91, g92, g93, g94, g95, g96, g97, g98, g99, g100, fun p hp => absurd hp List.not_mem_nil⟩) (by kernel_rfl)
        simp only [List.foldl, List.setIfInBounds_toArray, List.set_cons_succ, List.set_cons_zero] at hT9
        subst hT9
        clear hF hD hs g84 g85 g86 g87 g88 g89 g90 g91 g92 g93 g94 g95 g96 g97 g98 g99 g100 s84 s85 s86 s87 s88 s89 s90 s91 s92 s93 s94 s95 s96 s97 s98 s99 s100
        have B4 := Lib.hid (belT B3.out hb8)
        clear hb8 B3
        go_wp2_with fail
        exact ⟨⟨j + 1, by omega, by go_num, ⟨z, rfl, HQ2⟩, B4⟩, by simp [intOf]; omega⟩

set_option maxRecDepth 100000 in
theorem lifted (os : Os) (started : os.Started) (H : Type) (enc : TypeId × Value → H) :
    ReturnsInHanded {} Tryd.checked os 4 .any (fun w args => (Rows.lexerOffsetsSpec.pre enc Tryd.prog Tryd.f4 [] false w args ∧ laidMetH Tryd.prog Rows.lexerOffsetsRow.laid w) ∧ sizedMet enc Tryd.prog Tryd.f4 (OpenSpec.ofChange Rows.lexerOffsetsSpec) false w args)
      (Rows.lexerOffsetsSpec.post enc Tryd.prog Tryd.f4 false true false false) := by
  refine returnsInHanded_of_change_and (C := Tryd.checked) (X := fun w _ => laidMetH Tryd.prog Rows.lexerOffsetsRow.laid w) (fun _ _ _ hh h => h.of_heap hh) own started (by kernel_rfl) Tryd.func4
    (ChangeSpec.witness_shaped (enc := enc) (C := Tryd.checked) (os := os) (X := fun w _ => laidMetH Tryd.prog Rows.lexerOffsetsRow.laid w) false (World.doorLaid Tryd.prog 600 os) #[.string ⟨#[]⟩] 8 rfl (World.shaped_of_RefB (by kernel_rfl) (by kernel_rfl)) (by kernel_rfl) (by kernel_rfl) (by kernel_rfl) (show laidMetH Tryd.prog [(qn, Rows.laid_ambidexter_lexer_classes)] _ from door_met os _)) ?_
  intro W base args ds gs before hval0 hW _ _ hL _
  have hval : ∀ (j : Nat) t v, Tryd.f4.params[j]? = some t → args[j]? = some v → Value.okWide Tryd.prog W .any base t v := hval0
  have hW' := hW
  obtain ⟨p, q, hA0, hV, rfl, hfz, hnd⟩ := hW
  have hA : DataW.TrodAll enc Tryd.prog W 0 (fun _ => true) true Tryd.f4.params.toList args.toList ds p := hA0
  rw [Tryd.params4] at hA hval
  obtain ⟨v0, vs0, d0, ds0, p0, q0, hargs, rfl, rfl, h0, r0⟩ := trodAll_cons hA
  obtain ⟨rfl, rfl, rfl⟩ := trodAll_nil r0
  obtain rfl : args = #[v0] := by cases args; simp_all
  obtain ⟨rfl, rfl⟩ := trodVars_none hV
  obtain ⟨a0, rfl, rfl, rfl, w0⟩ := Go.ChangeMaps.open_string Tryd.underlying9 (hval 0 9 v0 rfl rfl) h0
  clear hA0 hval0
  simp only [List.append_nil] at hW'
  refine (walk (w := W) (hTab := tab_of_laid hL) a0 w0).mono fun e W' ⟨he, bel⟩ => ?_
  subst he
  exact ⟨_, rfl, _, _, _, [], _, [], hW', trodAll_mk1 (shut_bool Tryd.underlying4 _), (trodAll_cons_mk (Go.ChangeMaps.shut_string Tryd.underlying9 w0) trodAll_mk0), rfl, bel.frame _, fun h => by cases h⟩

theorem holds : Rows.LexerOffsetsSaid :=
  OpenClaim.holds_of_wide 4 Tryd.f4 rfl rfl rfl rfl rfl rfl rfl ⟨rfl, rfl, rfl, rfl, rfl⟩ rfl rfl rfl rfl rfl (by kernel_rfl) Tryd.func4 (by kernel_rfl)
    (of_decide_eq_true (by kernel_rfl)) (by unfold Func.isWrapper; first | (rw [if_pos (by decide +kernel)]; kernel_rfl) | (rw [if_neg (by decide +kernel)]; exact ⟨rfl, rfl⟩))
    (fun os started H enc _ => lifted os started H enc)

/-- THE STATEMENT: the tied card. -/
theorem card_holds : Rows.LexerOffsetsCardSaid :=
  Claim7.holds_tied_plain_at .later [] [.data] true Rows.lexerOffsetsCard.stood.harness false
    holds (fun _ h => by cases h) (by kernel_rfl) (fun _ h => by cases h) lexerOffsets_row_tie rfl ⟨rfl, rfl⟩ (by kernel_rfl) rfl
    (fun f fn hf hfn => by
      obtain rfl : f = 4 := Option.some.inj ((show Tryd.prog.funcNamed Rows.lexerOffsetsRow.func = some 4 by kernel_rfl).symm.trans hf) |>.symm
      obtain rfl : fn = Tryd.f4 := (Option.some.inj (Tryd.func4.symm.trans hfn)).symm
      exact ⟨by kernel_rfl, fun j t ht => by
        rw [Tryd.params4] at ht
        have hm : t ∈ [9] := by have := Array.mem_of_getElem? ht; simp only [List.mem_toArray, List.mem_cons, List.not_mem_nil, or_false] at this ⊢; grind
        have hall : ([9].all fun u => !Tryd.prog.wantsStandIn u) = true := by kernel_rfl
        exact (show Tryd.prog.wantsStandIn t = false by simpa using List.all_eq_true.1 hall t hm)⟩)
    (by kernel_rfl)
#print axioms card_holds
end Go.Proofs.YtfimejmmcfdgaaaDoor.lexerOffsets
