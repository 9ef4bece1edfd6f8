/- Lexing the texts of the tokens of an input, separated by arbitrary white space and comments, yields the same kinds and texts (at most 2000 bytes).
Conditions: none on the arguments; the table of classes lies as the program's text lays it (the card's tie). -/
import Derived.Test.YtfimejmmcfdgaaaDoorLxM
import Derived.Test.YtfimejmmcfdgaaaDoorLxFr
import Derived.Test.YtfimejmmcfdgaaaDoorTie
import Derived.Test.YtfimejmmcfdgaaaDoorCards
import Derived.SevenTiedAt
namespace Go.Proofs.YtfimejmmcfdgaaaDoor.lexerStable
open Go.ChangeShapes Go.WideShapes Go.ChangeAt Go.RowKit
set_option linter.unusedVariables false
set_option linter.unusedSimpArgs false
set_option maxRecDepth 100000
def gapZ (k : Nat) : ByteArray := match k with
  | 0 => ⟨#[32]⟩
  | 1 => ⟨#[10]⟩
  | 2 => ⟨#[32, 9, 13, 10]⟩
  | 3 => ⟨#[35, 120, 10]⟩
  | _ => ⟨#[32, 35, 32, 97, 32, 35, 32, 10, 10]⟩
theorem gapZ_gap (k : Nat) : Gap (bl (gapZ k)) ∧ (gapZ k).size ≤ 9 := by
  match k with
  | 0 => exact ⟨⟨⟨32, [], rfl, by decide⟩, by decide, by decide⟩, by decide⟩
  | 1 => exact ⟨⟨⟨10, [], rfl, by decide⟩, by decide, by decide⟩, by decide⟩
  | 2 => exact ⟨⟨⟨32, [9, 13, 10], rfl, by decide⟩, by decide, by decide⟩, by decide⟩
  | 3 => exact ⟨⟨⟨35, [120, 10], rfl, by decide⟩, by decide, by decide⟩, by decide⟩
  | n + 4 =>
    show Gap (bl ⟨#[32, 35, 32, 97, 32, 35, 32, 10, 10]⟩) ∧ (⟨#[32, 35, 32, 97, 32, 35, 32, 10, 10]⟩ : ByteArray).size ≤ 9
    exact ⟨⟨⟨32, [35, 32, 97, 32, 35, 32, 10, 10], rfl, by decide⟩, by decide, by decide⟩, by decide⟩
def gapCells : Array Value := #[.string ⟨#[32]⟩, .string ⟨#[10]⟩, .string ⟨#[32, 9, 13, 10]⟩, .string ⟨#[35, 120, 10]⟩, .string ⟨#[32, 35, 32, 97, 32, 35, 32, 10, 10]⟩]
theorem gap_cell {w : World} {b : Nat} {T : TypeId} (h : w.heap[b]? = some (.cells gapCells T (0, 0))) {k : Nat} (hk : k < 5) : w.cell? ⟨b, k, none⟩ = some (.string (gapZ k)) := by
  match k, hk with
  | 0, _ => exact blk_cell h 0 _ rfl
  | 1, _ => exact blk_cell h 1 _ rfl
  | 2, _ => exact blk_cell h 2 _ rfl
  | 3, _ => exact blk_cell h 3 _ rfl
  | 4, _ => exact blk_cell h 4 _ rfl
/-- What has been joined so far. -/
def Joined (ts : List Tok) (j : Nat) (T : ByteArray) : Prop := ∃ ps : List (Nat × Bs × Bs), (∀ x ∈ ps, IsTok x.1 x.2.1 ∧ Gap x.2.2) ∧ ps.map (fun x => (x.1, x.2.1)) = (ts.take j).map (fun x => (x.1, x.2.1)) ∧ bl T = joinT ps
theorem joined_zero (ts : List Tok) : Joined ts 0 ⟨#[]⟩ := ⟨[], by simp, by simp, rfl⟩
theorem joined_next {ts : List Tok} {j : Nat} {T : ByteArray} (h : Joined ts j T) (hj : j < ts.length) (ht : ∀ x ∈ ts, IsTok x.1 x.2.1) (g : ByteArray) (hg : Gap (bl g)) : Joined ts (j + 1) (T ++ bsA (ts.getD j tok0).2.1 ++ g) := by
  obtain ⟨ps, h1, h2, h3⟩ := h
  have hx : ts[j] = ts.getD j tok0 := by rw [List.getD_eq_getElem?_getD, List.getElem?_eq_getElem hj]; rfl
  have hm := ht _ (List.getElem_mem hj)
  rw [hx] at hm
  have h4 : ts.take (j + 1) = ts.take j ++ [ts.getD j tok0] := by rw [List.take_add_one, List.getElem?_eq_getElem hj, hx]; rfl
  generalize ts.getD j tok0 = el at *
  refine ⟨ps ++ [(el.1, el.2.1, bl g)], ?_, ?_, ?_⟩
  · intro x hxm
    rcases List.mem_append.1 hxm with hxm | hxm
    · exact h1 x hxm
    · simp at hxm
      subst hxm
      exact ⟨hm, hg⟩
  · rw [List.map_append, h2, h4, List.map_append]
    rfl
  · rw [joinT_app, ← h3]
    simp only [joinT, List.append_nil]
    unfold bl
    simp [show (bsA el.2.1).data.toList = el.2.1 from bl_bsA _]
theorem joined_lex {ts : List Tok} {j : Nat} {T : ByteArray} (h : Joined ts j T) : ∃ us, Lexes 0 (bl T) us none ∧ us.map (fun x => (x.1, x.2.1)) = (ts.take j).map (fun x => (x.1, x.2.1)) := by
  obtain ⟨ps, h1, h2, h3⟩ := h
  obtain ⟨us, h4, h5⟩ := lexes_join ps h1 0
  exact ⟨us, by rw [h3]; exact h4, h5.trans h2⟩
theorem tok_size {a : Nat} {l : Bs} {ts : List Tok} {e : Option Nat} (h : Lexes a l ts e) (j : Nat) (hj : j < ts.length) : (ts.getD j tok0).2.1.length ≤ l.length := by
  have h1 := lexes_trunc h j hj
  have h2 := lexes_offs h (List.replicate a 0) (by simp) j hj
  have h3 := h2.2.2.2.2.1
  have h4 := congrArg List.length h3
  rw [List.length_take, List.length_drop] at h4
  have h5 := h2.2.2.1
  unfold endT at h5
  have h6 : a ≤ (ts.getD j tok0).2.2 := by
    have h7 := h2.1
    have : ∀ j, j < ts.length → a ≤ fromT a ts j := fun j hj => by
      cases j with
      | zero => exact Nat.le_refl _
      | succ j => exact (lexes_trunc h j (by omega)).1
    have := this j hj
    omega
  omega
set_option maxHeartbeats 8000000 in
set_option maxRecDepth 1000000 in
theorem walk (s : ByteArray) (hs : s.size ≤ maxLen) (ho : Option Addr) (hcap : Nat) (how : List Int) (hn : how.length ≤ 9223372036854775807) {w : World} (hw : URow w ho how) (hTab : Tab w) :
    Calls Tryd.prog 5 #[.string s, .slice ho how.length hcap] w fun e w' => e = .returned (.bool true) ∧ Below w.heap.size w w' := by
  have TB : Hid (∀ v, Below w.heap.size w v → Tab v) := Lib.hid fun v h => hTab.below h
  clear hTab
  have FC := fun w => few_is s w hs
  have fz := fewB_size s
  generalize fewB s = t at *
  obtain ⟨ts, o, h⟩ := lexes_ex 0 (bl t)
  have tl := toks_le h
  rw [bl_len] at tl
  have HL := Lib.hid h
  clear h hs
  have HW := Lib.hid hw
  clear hw
  cases o with
  | some p =>
    have C1 := fun wv hwv => lex_err t ts p wv (TB.out wv hwv) (by omega) HL
    go_enter Tryd.func5, Tryd.ntmps5
    go_wp2_with (first | (go_at_call 10; refine (head10_is _ (TB.out _ (Below.refl _ _))).mono ?_; rintro e' W1 ⟨rfl, hb⟩; have B1 := Lib.hid hb; clear hb) | (go_at_call 11; with_reducible refine (FC _).mono ?_; rintro e' w' ⟨rfl, rfl⟩) | (go_at_call 12; with_reducible refine (C1 _ B1.out).mono ?_; rintro e' W2 ⟨rfl, hb⟩; have B2 := Lib.hid (belT B1.out hb); clear hb))
    go_ret
    exact ⟨rfl, B2.out⟩
  | none =>
    have C1 := fun wv hwv => lex_ok t ts wv (TB.out wv hwv) (by omega) HL
    obtain ⟨n, hn'⟩ : ∃ n, ts.length = n := ⟨_, rfl⟩
    rw [hn'] at C1 tl
    have HN := Lib.hid hn'
    clear hn'
    obtain ⟨m, hm⟩ : ∃ m, how.length = m := ⟨_, rfl⟩
    have HM := Lib.hid hm
    rw [hm] at hn ⊢
    clear hm
    go_enter Tryd.func5, Tryd.ntmps5
    go_upto_region 6 with (first | (go_at_call 10; refine (head10_is _ (TB.out _ (Below.refl _ _))).mono ?_; rintro e' W1 ⟨rfl, hb⟩; have B1 := Lib.hid hb; clear hb) | (go_at_call 11; with_reducible refine (FC _).mono ?_; rintro e' w' ⟨rfl, rfl⟩) | (go_at_call 12; with_reducible refine (C1 _ B1.out).mono ?_; rintro e' W2 ⟨⟨ao, ca, rfl, hc1, hc2, hr⟩, hb⟩; have R2 := Lib.hid hr; have KR2 := Lib.hid (And.intro hc1 hc2); have B2 := Lib.hid (belT B1.out hb); clear hr hb hc1 hc2))
    have HG := Lib.hid (blk_new W2 (.cells gapCells 9) _ rfl)
    have R3 := Lib.hid (trow_alloc R2.out (.cells gapCells 9))
    have B3 := Lib.hid (belA B2.out (.cells gapCells 9))
    change Code.wp _ _ _ _ (W2.alloc (.cells gapCells 9))
    obtain ⟨bg, hbg⟩ : ∃ x, W2.heap.size = x := ⟨_, rfl⟩
    rw [hbg] at HG ⊢
    clear hbg
    generalize W2.alloc (.cells gapCells 9) = W3 at *
    go_wp2_with fail
    go_loopw [11, 10] (fun i T wr => ∃ j : Nat, j ≤ n ∧ i = .int .i64 j ∧ (∃ x : ByteArray, T = .string x ∧ x.size ≤ 8100 ∧ Hid (Joined ts j x)) ∧ Hid (Below W3.heap.size W3 wr)) (fun i _ _ => n - (intOf i).toNat)
    case atStart => exact ⟨0, Nat.zero_le _, rfl, ⟨_, rfl, by decide, Lib.hid (joined_zero ts)⟩, Lib.hid (Below.refl _ _)⟩
    case round =>
      obtain ⟨j, hj, rfl, ⟨x, rfl, hx, HJ⟩, HB⟩ := hrel
      have R4 := Lib.hid (trow_below R3.out HB.out)
      have HG4 := Lib.hid (blk_call HG.out HB.out)
      have B4 := Lib.hid (belT B3.out HB.out)
      have xm : x.size ≤ 9223372036854775807 := by omega
      by_cases hlt : j < n
      rotate_left
      · have hje : j = n := by omega
        have hlt' : ¬ (j : Int) < n := by omega
        have jn : ((j : Int) != (n : Int)) = false := by rw [hje]; simp
        clear hje
        obtain ⟨us, hu1, hu2⟩ := joined_lex HJ.out
        have hul : us.length = j := by have h := congrArg List.length hu2; rw [List.length_map, List.length_map, List.length_take] at h; rw [h, HN.out]; omega
        have HU1 := Lib.hid hu1
        have HU2 := Lib.hid hu2
        have HUL := Lib.hid hul
        clear hu1 hu2 hul
        have C2 := fun wv hwv => lex_ok x us wv (TB.out wv hwv) (by omega) HU1
        rw [HUL.out] at C2
        go_wp2_with (first | (go_at_call 12; with_reducible refine (C2 _ B4.out).mono ?_; rintro e' W5 ⟨⟨bo, cb, rfl, hc1, hc2, hr⟩, hb⟩; have R5 := Lib.hid hr; have KR5 := Lib.hid (And.intro hc1 hc2); have B5 := Lib.hid (belT B4.out hb); have R6 := Lib.hid (trow_below R4.out hb); clear hr hb hc1 hc2))
        go_loopw [16] (fun i wr => ∃ q : Nat, q ≤ j ∧ i = .int .i64 q ∧ Hid (Below W5.heap.size W5 wr)) (fun i _ => j - (intOf i).toNat)
        case atStart => exact ⟨0, Nat.zero_le _, rfl, Lib.hid (Below.refl _ _)⟩
        case round =>
          obtain ⟨q, hq, rfl, HB5⟩ := hrel
          have RU := Lib.hid (trow_below R5.out HB5.out)
          have RT := Lib.hid (trow_below R6.out HB5.out)
          have BB := Lib.hid (belT B5.out HB5.out)
          by_cases hqj : q < j
          rotate_left
          · have hqj' : ¬ (q : Int) < j := by omega
            go_wp2_with fail
            go_ret
            exact ⟨rfl, BB.out⟩
          have hq1 : q < us.length := by rw [HUL.out]; exact hqj
          have hq2 : q < ts.length := by rw [HN.out]; omega
          obtain ⟨b1, o1, rfl, d1, d2, -⟩ := RU.out q hq1
          obtain ⟨b2, o2, rfl, c1, c2, -⟩ := RT.out q hq2
          have EQ : ((us.getD q tok0).1, (us.getD q tok0).2.1) = ((ts.getD q tok0).1, (ts.getD q tok0).2.1) := by
            have h := congrArg (fun l => l[q]?) HU2.out
            simp only [List.getElem?_map, List.getElem?_take_of_lt hqj, List.getElem?_eq_getElem hq1, List.getElem?_eq_getElem hq2, Option.map_some, Option.some.injEq] at h
            rw [List.getD_eq_getElem?_getD, List.getD_eq_getElem?_getD, List.getElem?_eq_getElem hq1, List.getElem?_eq_getElem hq2]
            exact h
          have E1 := congrArg Prod.fst EQ
          have E2 := congrArg Prod.snd EQ
          simp only at E1 E2
          rw [E1] at d1
          rw [E2] at d2
          clear EQ E1 E2
          generalize ts.getD q tok0 = el at *
          obtain ⟨k, y, z⟩ := el
          simp only at c1 c2 d1 d2
          generalize bsA y = v at *
          have hqi : (q : Int) < j := by omega
          have hqn : (q : Int) < n := by omega
          have hqn2 : q < n := by omega
          clear hq1 hq2
          go_upto_region 20 with fail
          obtain ⟨sp, hsp⟩ : ∃ sp : ToldS, sp = [none, none, none, none, none, none, none, none, none, none, none, none, none, none, none, none, none, none, none, none, none, none, none, none, none, none, none, none, none, none, none, none, none, none, none, none, none, none, none, none, none, none, none, none, none, none, none, none, none, none, none, none, none, none, none, none, none, none, none, none, none, none, none, none, none, none, none, none, none, none, none, none, none, none, none, none, none, none, none, none, none, none, none, none, none, none, none, none, none, none, none, none, none, none, none, none, none, none, some (eqS (.slice (some ⟨b1, o1, none⟩) j cb)), some (eqS (.int .i64 q)), some (eqS (.pointer (some ⟨b1, o1 + q * 3, none⟩))), some (eqS (.pointer (some ⟨b1, o1 + q * 3, none⟩))), some (eqS (.int .i64 k)), some (eqS (.slice (some ⟨b2, o2, none⟩) n ca)), some (eqS (.int .i64 q)), some (eqS (.pointer (some ⟨b2, o2 + q * 3, none⟩))), some (eqS (.pointer (some ⟨b2, o2 + q * 3, none⟩))), some (eqS (.int .i64 k)), some (eqS (.bool false)), some (eqS (.bool false)), some (eqS (.slice (some ⟨b1, o1, none⟩) j cb)), some (eqS (.int .i64 q)), some (eqS (.pointer (some ⟨b1, o1 + q * 3, none⟩))), some (eqS (.pointer (some ⟨b1, o1 + q * 3 + 1, none⟩))), some (eqS (.string v)), some (eqS (.slice (some ⟨b2, o2, none⟩) n ca)), some (eqS (.int .i64 q)), some (eqS (.pointer (some ⟨b2, o2 + q * 3, none⟩))), some (eqS (.pointer (some ⟨b2, o2 + q * 3 + 1, none⟩))), some (eqS (.string v)), some (eqS (.bool false)), some (eqS (.bool false))] := ⟨_, rfl⟩
          have s98 : sp.getD 98 none = some (eqS (.slice (some ⟨b1, o1, none⟩) j cb)) := by rw [hsp]; rfl
          have s99 : sp.getD 99 none = some (eqS (.int .i64 q)) := by rw [hsp]; rfl
          have s100 : sp.getD 100 none = some (eqS (.pointer (some ⟨b1, o1 + q * 3, none⟩))) := by rw [hsp]; rfl
          have s101 : sp.getD 101 none = some (eqS (.pointer (some ⟨b1, o1 + q * 3, none⟩))) := by rw [hsp]; rfl
          have s102 : sp.getD 102 none = some (eqS (.int .i64 k)) := by rw [hsp]; rfl
          have s103 : sp.getD 103 none = some (eqS (.slice (some ⟨b2, o2, none⟩) n ca)) := by rw [hsp]; rfl
          have s104 : sp.getD 104 none = some (eqS (.int .i64 q)) := by rw [hsp]; rfl
          have s105 : sp.getD 105 none = some (eqS (.pointer (some ⟨b2, o2 + q * 3, none⟩))) := by rw [hsp]; rfl
          have s106 : sp.getD 106 none = some (eqS (.pointer (some ⟨b2, o2 + q * 3, none⟩))) := by rw [hsp]; rfl
          have s107 : sp.getD 107 none = some (eqS (.int .i64 k)) := by rw [hsp]; rfl
          have s108 : sp.getD 108 none = some (eqS (.bool false)) := by rw [hsp]; rfl
          have s109 : sp.getD 109 none = some (eqS (.bool false)) := by rw [hsp]; rfl
          have s110 : sp.getD 110 none = some (eqS (.slice (some ⟨b1, o1, none⟩) j cb)) := by rw [hsp]; rfl
          have s111 : sp.getD 111 none = some (eqS (.int .i64 q)) := by rw [hsp]; rfl
          have s112 : sp.getD 112 none = some (eqS (.pointer (some ⟨b1, o1 + q * 3, none⟩))) := by rw [hsp]; rfl
          have s113 : sp.getD 113 none = some (eqS (.pointer (some ⟨b1, o1 + q * 3 + 1, none⟩))) := by rw [hsp]; rfl
          have s114 : sp.getD 114 none = some (eqS (.string v)) := by rw [hsp]; rfl
          have s115 : sp.getD 115 none = some (eqS (.slice (some ⟨b2, o2, none⟩) n ca)) := by rw [hsp]; rfl
          have s116 : sp.getD 116 none = some (eqS (.int .i64 q)) := by rw [hsp]; rfl
          have s117 : sp.getD 117 none = some (eqS (.pointer (some ⟨b2, o2 + q * 3, none⟩))) := by rw [hsp]; rfl
          have s118 : sp.getD 118 none = some (eqS (.pointer (some ⟨b2, o2 + q * 3 + 1, none⟩))) := by rw [hsp]; rfl
          have s119 : sp.getD 119 none = some (eqS (.string v)) := by rw [hsp]; rfl
          have s120 : sp.getD 120 none = some (eqS (.bool false)) := by rw [hsp]; rfl
          have s121 : sp.getD 121 none = some (eqS (.bool false)) := by rw [hsp]; rfl
          clear hsp
          refine (wpIn_wide (n := 0)).1 (region_allR (RtS sp) (rtS_keep sp) rfl rfl rfl (by kernel_rfl) (by kernel_rfl) (by kernel_rfl) ?_ ?_)
          · intro Q'
            refine obsR_cons ?_ ?_
            · intro T wx K hB hF hD hK
              have g13 : T[13]? = some (.slice (some ⟨b1, o1, none⟩) j cb) := hF 13 (freeM_of (by kernel_rfl))
              refine ob_yes (wanted_none rfl) ?_
              clear hF hD
              go_simp
              exact hK _ _ (Below.refl _ _) (rt_eqS s98)
            refine obsR_cons ?_ ?_
            · intro T wx K hB hF hD hK
              have g16 : T[16]? = some (.int .i64 q) := hF 16 (freeM_of (by kernel_rfl))
              refine ob_yes (wanted_none rfl) ?_
              clear hF hD
              go_simp
              exact hK _ _ (Below.refl _ _) (rt_eqS s99)
            refine obsR_cons ?_ ?_
            · intro T wx K hB hF hD hK
              have g98 := get_eqS (hD 0 98 (by simp [Region.binds]) (by kernel_rfl)) s98
              have g99 := get_eqS (hD 1 99 (by simp [Region.binds]) (by kernel_rfl)) s99
              refine ob_yes (wanted_none rfl) ?_
              clear hF hD
              go_simp
              exact hK _ _ (Below.refl _ _) (rt_eqS s100)
            refine obsR_cons ?_ ?_
            · intro T wx K hB hF hD hK
              have g100 := get_eqS (hD 2 100 (by simp [Region.binds]) (by kernel_rfl)) s100
              refine ob_yes (wanted_none rfl) ?_
              clear hF hD
              go_simp
              exact hK _ _ (Below.refl _ _) (rt_eqS s101)
            refine obsR_cons ?_ ?_
            · intro T wx K hB hF hD hK
              have g101 := get_eqS (hD 3 101 (by simp [Region.binds]) (by kernel_rfl)) s101
              refine ob_yes (wanted_none rfl) ?_
              clear hF hD
              have jx := (hB.cell (World.block_lt_of_cell? _ _ d1)).trans d1
              go_simp
              exact hK _ _ (Below.refl _ _) (rt_eqS s102)
            refine obsR_cons ?_ ?_
            · intro T wx K hB hF hD hK
              have g6 : T[6]? = some (.slice (some ⟨b2, o2, none⟩) n ca) := hF 6 (freeM_of (by kernel_rfl))
              refine ob_yes (wanted_none rfl) ?_
              clear hF hD
              go_simp
              exact hK _ _ (Below.refl _ _) (rt_eqS s103)
            refine obsR_cons ?_ ?_
            · intro T wx K hB hF hD hK
              have g16 : T[16]? = some (.int .i64 q) := hF 16 (freeM_of (by kernel_rfl))
              refine ob_yes (wanted_none rfl) ?_
              clear hF hD
              go_simp
              exact hK _ _ (Below.refl _ _) (rt_eqS s104)
            refine obsR_cons ?_ ?_
            · intro T wx K hB hF hD hK
              have g103 := get_eqS (hD 5 103 (by simp [Region.binds]) (by kernel_rfl)) s103
              have g104 := get_eqS (hD 6 104 (by simp [Region.binds]) (by kernel_rfl)) s104
              refine ob_yes (wanted_none rfl) ?_
              clear hF hD
              go_simp
              exact hK _ _ (Below.refl _ _) (rt_eqS s105)
            refine obsR_cons ?_ ?_
            · intro T wx K hB hF hD hK
              have g105 := get_eqS (hD 7 105 (by simp [Region.binds]) (by kernel_rfl)) s105
              refine ob_yes (wanted_none rfl) ?_
              clear hF hD
              go_simp
              exact hK _ _ (Below.refl _ _) (rt_eqS s106)
            refine obsR_cons ?_ ?_
            · intro T wx K hB hF hD hK
              have g106 := get_eqS (hD 8 106 (by simp [Region.binds]) (by kernel_rfl)) s106
              refine ob_yes (wanted_none rfl) ?_
              clear hF hD
              have jx := (hB.cell (World.block_lt_of_cell? _ _ c1)).trans c1
              go_simp
              exact hK _ _ (Below.refl _ _) (rt_eqS s107)
            refine obsR_cons ?_ ?_
            · intro T wx K hB hF hD hK
              have g102 := get_eqS (hD 4 102 (by simp [Region.binds]) (by kernel_rfl)) s102
              have g107 := get_eqS (hD 9 107 (by simp [Region.binds]) (by kernel_rfl)) s107
              refine ob_yes (wanted_none rfl) ?_
              clear hF hD
              go_simp
              exact hK _ _ (Below.refl _ _) (rt_eqS s108)
            refine obsR_cons ?_ ?_
            · intro T wx K hB hF hD hK
              have g108 := get_eqS (hD 10 108 (by simp [Region.binds]) (by kernel_rfl)) s108
              refine ob_yes (wanted_none rfl) ?_
              clear hF hD
              go_simp
              exact hK _ _ (Below.refl _ _) (rt_eqS s109)
            refine obsR_cons ?_ ?_
            · intro T wx K hB hF hD hK
              have g109 := get_eqS (hD 11 109 (by simp [Region.binds]) (by kernel_rfl)) s109
              have g13 : T[13]? = some (.slice (some ⟨b1, o1, none⟩) j cb) := hF 13 (freeM_of (by kernel_rfl))
              refine ob_yes (wanted_yes rfl (by kernel_rfl) g109) ?_
              clear hF hD
              go_simp
              exact hK _ _ (Below.refl _ _) (rt_eqS s110)
            refine obsR_cons ?_ ?_
            · intro T wx K hB hF hD hK
              have g109 := get_eqS (hD 11 109 (by simp [Region.binds]) (by kernel_rfl)) s109
              have g16 : T[16]? = some (.int .i64 q) := hF 16 (freeM_of (by kernel_rfl))
              refine ob_yes (wanted_yes rfl (by kernel_rfl) g109) ?_
              clear hF hD
              go_simp
              exact hK _ _ (Below.refl _ _) (rt_eqS s111)
            refine obsR_cons ?_ ?_
            · intro T wx K hB hF hD hK
              have g109 := get_eqS (hD 11 109 (by simp [Region.binds]) (by kernel_rfl)) s109
              have g110 := get_eqS (hD 12 110 (by simp [Region.binds]) (by kernel_rfl)) s110
              have g111 := get_eqS (hD 13 111 (by simp [Region.binds]) (by kernel_rfl)) s111
              refine ob_yes (wanted_yes rfl (by kernel_rfl) g109) ?_
              clear hF hD
              go_simp
              exact hK _ _ (Below.refl _ _) (rt_eqS s112)
            refine obsR_cons ?_ ?_
            · intro T wx K hB hF hD hK
              have g109 := get_eqS (hD 11 109 (by simp [Region.binds]) (by kernel_rfl)) s109
              have g112 := get_eqS (hD 14 112 (by simp [Region.binds]) (by kernel_rfl)) s112
              refine ob_yes (wanted_yes rfl (by kernel_rfl) g109) ?_
              clear hF hD
              go_simp
              exact hK _ _ (Below.refl _ _) (rt_eqS s113)
            refine obsR_cons ?_ ?_
            · intro T wx K hB hF hD hK
              have g109 := get_eqS (hD 11 109 (by simp [Region.binds]) (by kernel_rfl)) s109
              have g113 := get_eqS (hD 15 113 (by simp [Region.binds]) (by kernel_rfl)) s113
              refine ob_yes (wanted_yes rfl (by kernel_rfl) g109) ?_
              clear hF hD
              have jx := (hB.cell (World.block_lt_of_cell? _ _ d2)).trans d2
              go_simp
              exact hK _ _ (Below.refl _ _) (rt_eqS s114)
            refine obsR_cons ?_ ?_
            · intro T wx K hB hF hD hK
              have g109 := get_eqS (hD 11 109 (by simp [Region.binds]) (by kernel_rfl)) s109
              have g6 : T[6]? = some (.slice (some ⟨b2, o2, none⟩) n ca) := hF 6 (freeM_of (by kernel_rfl))
              refine ob_yes (wanted_yes rfl (by kernel_rfl) g109) ?_
              clear hF hD
              go_simp
              exact hK _ _ (Below.refl _ _) (rt_eqS s115)
            refine obsR_cons ?_ ?_
            · intro T wx K hB hF hD hK
              have g109 := get_eqS (hD 11 109 (by simp [Region.binds]) (by kernel_rfl)) s109
              have g16 : T[16]? = some (.int .i64 q) := hF 16 (freeM_of (by kernel_rfl))
              refine ob_yes (wanted_yes rfl (by kernel_rfl) g109) ?_
              clear hF hD
              go_simp
              exact hK _ _ (Below.refl _ _) (rt_eqS s116)
            refine obsR_cons ?_ ?_
            · intro T wx K hB hF hD hK
              have g109 := get_eqS (hD 11 109 (by simp [Region.binds]) (by kernel_rfl)) s109
              have g115 := get_eqS (hD 17 115 (by simp [Region.binds]) (by kernel_rfl)) s115
              have g116 := get_eqS (hD 18 116 (by simp [Region.binds]) (by kernel_rfl)) s116
              refine ob_yes (wanted_yes rfl (by kernel_rfl) g109) ?_
              clear hF hD
              go_simp
              exact hK _ _ (Below.refl _ _) (rt_eqS s117)
            refine obsR_cons ?_ ?_
            · intro T wx K hB hF hD hK
              have g109 := get_eqS (hD 11 109 (by simp [Region.binds]) (by kernel_rfl)) s109
              have g117 := get_eqS (hD 19 117 (by simp [Region.binds]) (by kernel_rfl)) s117
              refine ob_yes (wanted_yes rfl (by kernel_rfl) g109) ?_
              clear hF hD
              go_simp
              exact hK _ _ (Below.refl _ _) (rt_eqS s118)
            refine obsR_cons ?_ ?_
            · intro T wx K hB hF hD hK
              have g109 := get_eqS (hD 11 109 (by simp [Region.binds]) (by kernel_rfl)) s109
              have g118 := get_eqS (hD 20 118 (by simp [Region.binds]) (by kernel_rfl)) s118
              refine ob_yes (wanted_yes rfl (by kernel_rfl) g109) ?_
              clear hF hD
              have jx := (hB.cell (World.block_lt_of_cell? _ _ c2)).trans c2
              go_simp
              exact hK _ _ (Below.refl _ _) (rt_eqS s119)
            refine obsR_cons ?_ ?_
            · intro T wx K hB hF hD hK
              have g109 := get_eqS (hD 11 109 (by simp [Region.binds]) (by kernel_rfl)) s109
              have g114 := get_eqS (hD 16 114 (by simp [Region.binds]) (by kernel_rfl)) s114
              have g119 := get_eqS (hD 21 119 (by simp [Region.binds]) (by kernel_rfl)) s119
              refine ob_yes (wanted_yes rfl (by kernel_rfl) g109) ?_
              clear hF hD
              go_simp
              exact hK _ _ (Below.refl _ _) (rt_eqS s120)
            refine obsR_cons ?_ ?_
            · intro T wx K hB hF hD hK
              have g109 := get_eqS (hD 11 109 (by simp [Region.binds]) (by kernel_rfl)) s109
              have g120 := get_eqS (hD 22 120 (by simp [Region.binds]) (by kernel_rfl)) s120
              refine ob_yes (wanted_none rfl) ?_
              clear hF hD
              go_simp
              exact hK _ _ (Below.refl _ _) (rt_eqS s121)
            exact obsR_nil
          · intro Tz Wz hb8 hF hs hD
            have g98 := get_eqS (hD 0 98 (by decide) (by kernel_rfl)) s98
            have g99 := get_eqS (hD 1 99 (by decide) (by kernel_rfl)) s99
            have g100 := get_eqS (hD 2 100 (by decide) (by kernel_rfl)) s100
            have g101 := get_eqS (hD 3 101 (by decide) (by kernel_rfl)) s101
            have g102 := get_eqS (hD 4 102 (by decide) (by kernel_rfl)) s102
            have g103 := get_eqS (hD 5 103 (by decide) (by kernel_rfl)) s103
            have g104 := get_eqS (hD 6 104 (by decide) (by kernel_rfl)) s104
            have g105 := get_eqS (hD 7 105 (by decide) (by kernel_rfl)) s105
            have g106 := get_eqS (hD 8 106 (by decide) (by kernel_rfl)) s106
            have g107 := get_eqS (hD 9 107 (by decide) (by kernel_rfl)) s107
            have g108 := get_eqS (hD 10 108 (by decide) (by kernel_rfl)) s108
            have g109 := get_eqS (hD 11 109 (by decide) (by kernel_rfl)) s109
            have g110 := get_eqS (hD 12 110 (by decide) (by kernel_rfl)) s110
            have g111 := get_eqS (hD 13 111 (by decide) (by kernel_rfl)) s111
            have g112 := get_eqS (hD 14 112 (by decide) (by kernel_rfl)) s112
            have g113 := get_eqS (hD 15 113 (by decide) (by kernel_rfl)) s113
            have g114 := get_eqS (hD 16 114 (by decide) (by kernel_rfl)) s114
            have g115 := get_eqS (hD 17 115 (by decide) (by kernel_rfl)) s115
            have g116 := get_eqS (hD 18 116 (by decide) (by kernel_rfl)) s116
            have g117 := get_eqS (hD 19 117 (by decide) (by kernel_rfl)) s117
            have g118 := get_eqS (hD 20 118 (by decide) (by kernel_rfl)) s118
            have g119 := get_eqS (hD 21 119 (by decide) (by kernel_rfl)) s119
            have g120 := get_eqS (hD 22 120 (by decide) (by kernel_rfl)) s120
            have g121 := get_eqS (hD 23 121 (by decide) (by kernel_rfl)) s121
            have hT9 := conc [(98, .slice (some ⟨b1, o1, none⟩) j cb), (99, .int .i64 q), (100, .pointer (some ⟨b1, o1 + q * 3, none⟩)), (101, .pointer (some ⟨b1, o1 + q * 3, none⟩)), (102, .int .i64 k), (103, .slice (some ⟨b2, o2, none⟩) n ca), (104, .int .i64 q), (105, .pointer (some ⟨b2, o2 + q * 3, none⟩)), (106, .pointer (some ⟨b2, o2 + q * 3, none⟩)), (107, .int .i64 k), (108, .bool false), (109, .bool false), (110, .slice (some ⟨b1, o1, none⟩) j cb), (111, .int .i64 q), (112, .pointer (some ⟨b1, o1 + q * 3, none⟩)), (113, .pointer (some ⟨b1, o1 + q * 3 + 1, none⟩)), (114, .string v), (115, .slice (some ⟨b2, o2, none⟩) n ca), (116, .int .i64 q), (117, .pointer (some ⟨b2, o2 + q * 3, none⟩)), (118, .pointer (some ⟨b2, o2 + q * 3 + 1, none⟩)), (119, .string v), (120, .bool false), (121, .bool false)] hs hF (by simp only [List.forall_mem_cons]; exact ⟨g98, g99, g100, g101, g102, g103, g104, g105, g106, g107, g108, g109, g110, g111, g112, g113, g114, g115, g116, g117, g118, g119, g120, g121, fun p hp => absurd hp List.not_mem_nil⟩) (by kernel_rfl)
            simp only [List.foldl, List.setIfInBounds_toArray, List.set_cons_succ, List.set_cons_zero] at hT9
            subst hT9
            clear hF hD hs g98 g99 g100 g101 g102 g103 g104 g105 g106 g107 g108 g109 g110 g111 g112 g113 g114 g115 g116 g117 g118 g119 g120 g121 s98 s99 s100 s101 s102 s103 s104 s105 s106 s107 s108 s109 s110 s111 s112 s113 s114 s115 s116 s117 s118 s119 s120 s121
            have B7 := Lib.hid (belT HB5.out hb8)
            clear hb8 c1 c2 d1 d2
            go_wp2_with fail
            exact ⟨⟨q + 1, by omega, by go_num, B7⟩, by simp [intOf]; omega⟩
      have hji : (j : Int) < n := by omega
      by_cases h6 : x.size < 6000
      rotate_left
      · have h6' : ¬ (x.size : Int) < 6000 := by omega
        have jn : ((j : Int) != (n : Int)) = true := by simp; omega
        obtain ⟨us, hu1, hu2⟩ := joined_lex HJ.out
        have hul : us.length = j := by have h := congrArg List.length hu2; rw [List.length_map, List.length_map, List.length_take] at h; rw [h, HN.out]; omega
        have HU1 := Lib.hid hu1
        have HU2 := Lib.hid hu2
        have HUL := Lib.hid hul
        clear hu1 hu2 hul
        have C2 := fun wv hwv => lex_ok x us wv (TB.out wv hwv) (by omega) HU1
        rw [HUL.out] at C2
        go_wp2_with (first | (go_at_call 12; with_reducible refine (C2 _ B4.out).mono ?_; rintro e' W5 ⟨⟨bo, cb, rfl, hc1, hc2, hr⟩, hb⟩; have R5 := Lib.hid hr; have KR5 := Lib.hid (And.intro hc1 hc2); have B5 := Lib.hid (belT B4.out hb); have R6 := Lib.hid (trow_below R4.out hb); clear hr hb hc1 hc2))
        go_loopw [16] (fun i wr => ∃ q : Nat, q ≤ j ∧ i = .int .i64 q ∧ Hid (Below W5.heap.size W5 wr)) (fun i _ => j - (intOf i).toNat)
        case atStart => exact ⟨0, Nat.zero_le _, rfl, Lib.hid (Below.refl _ _)⟩
        case round =>
          obtain ⟨q, hq, rfl, HB5⟩ := hrel
          have RU := Lib.hid (trow_below R5.out HB5.out)
          have RT := Lib.hid (trow_below R6.out HB5.out)
          have BB := Lib.hid (belT B5.out HB5.out)
          by_cases hqj : q < j
          rotate_left
          · have hqj' : ¬ (q : Int) < j := by omega
            go_wp2_with fail
            go_ret
            exact ⟨rfl, BB.out⟩
          have hq1 : q < us.length := by rw [HUL.out]; exact hqj
          have hq2 : q < ts.length := by rw [HN.out]; omega
          obtain ⟨b1, o1, rfl, d1, d2, -⟩ := RU.out q hq1
          obtain ⟨b2, o2, rfl, c1, c2, -⟩ := RT.out q hq2
          have EQ : ((us.getD q tok0).1, (us.getD q tok0).2.1) = ((ts.getD q tok0).1, (ts.getD q tok0).2.1) := by
            have h := congrArg (fun l => l[q]?) HU2.out
            simp only [List.getElem?_map, List.getElem?_take_of_lt hqj, List.getElem?_eq_getElem hq1, List.getElem?_eq_getElem hq2, Option.map_some, Option.some.injEq] at h
            rw [List.getD_eq_getElem?_getD, List.getD_eq_getElem?_getD, List.getElem?_eq_getElem hq1, List.getElem?_eq_getElem hq2]
            exact h
          have E1 := congrArg Prod.fst EQ
          have E2 := congrArg Prod.snd EQ
          simp only at E1 E2
          rw [E1] at d1
          rw [E2] at d2
          clear EQ E1 E2
          generalize ts.getD q tok0 = el at *
          obtain ⟨k, y, z⟩ := el
          simp only at c1 c2 d1 d2
          generalize bsA y = v at *
          have hqi : (q : Int) < j := by omega
          have hqn : (q : Int) < n := by omega
          have hqn2 : q < n := by omega
          clear hq1 hq2
          go_upto_region 20 with fail
          obtain ⟨sp, hsp⟩ : ∃ sp : ToldS, sp = [none, none, none, none, none, none, none, none, none, none, none, none, none, none, none, none, none, none, none, none, none, none, none, none, none, none, none, none, none, none, none, none, none, none, none, none, none, none, none, none, none, none, none, none, none, none, none, none, none, none, none, none, none, none, none, none, none, none, none, none, none, none, none, none, none, none, none, none, none, none, none, none, none, none, none, none, none, none, none, none, none, none, none, none, none, none, none, none, none, none, none, none, none, none, none, none, none, none, some (eqS (.slice (some ⟨b1, o1, none⟩) j cb)), some (eqS (.int .i64 q)), some (eqS (.pointer (some ⟨b1, o1 + q * 3, none⟩))), some (eqS (.pointer (some ⟨b1, o1 + q * 3, none⟩))), some (eqS (.int .i64 k)), some (eqS (.slice (some ⟨b2, o2, none⟩) n ca)), some (eqS (.int .i64 q)), some (eqS (.pointer (some ⟨b2, o2 + q * 3, none⟩))), some (eqS (.pointer (some ⟨b2, o2 + q * 3, none⟩))), some (eqS (.int .i64 k)), some (eqS (.bool false)), some (eqS (.bool false)), some (eqS (.slice (some ⟨b1, o1, none⟩) j cb)), some (eqS (.int .i64 q)), some (eqS (.pointer (some ⟨b1, o1 + q * 3, none⟩))), some (eqS (.pointer (some ⟨b1, o1 + q * 3 + 1, none⟩))), some (eqS (.string v)), some (eqS (.slice (some ⟨b2, o2, none⟩) n ca)), some (eqS (.int .i64 q)), some (eqS (.pointer (some ⟨b2, o2 + q * 3, none⟩))), some (eqS (.pointer (some ⟨b2, o2 + q * 3 + 1, none⟩))), some (eqS (.string v)), some (eqS (.bool false)), some (eqS (.bool false))] := ⟨_, rfl⟩
          have s98 : sp.getD 98 none = some (eqS (.slice (some ⟨b1, o1, none⟩) j cb)) := by rw [hsp]; rfl
          have s99 : sp.getD 99 none = some (eqS (.int .i64 q)) := by rw [hsp]; rfl
          have s100 : sp.getD 100 none = some (eqS (.pointer (some ⟨b1, o1 + q * 3, none⟩))) := by rw [hsp]; rfl
          have s101 : sp.getD 101 none = some (eqS (.pointer (some ⟨b1, o1 + q * 3, none⟩))) := by rw [hsp]; rfl
          have s102 : sp.getD 102 none = some (eqS (.int .i64 k)) := by rw [hsp]; rfl
          have s103 : sp.getD 103 none = some (eqS (.slice (some ⟨b2, o2, none⟩) n ca)) := by rw [hsp]; rfl
          have s104 : sp.getD 104 none = some (eqS (.int .i64 q)) := by rw [hsp]; rfl
          have s105 : sp.getD 105 none = some (eqS (.pointer (some ⟨b2, o2 + q * 3, none⟩))) := by rw [hsp]; rfl
          have s106 : sp.getD 106 none = some (eqS (.pointer (some ⟨b2, o2 + q * 3, none⟩))) := by rw [hsp]; rfl
          have s107 : sp.getD 107 none = some (eqS (.int .i64 k)) := by rw [hsp]; rfl
          have s108 : sp.getD 108 none = some (eqS (.bool false)) := by rw [hsp]; rfl
          have s109 : sp.getD 109 none = some (eqS (.bool false)) := by rw [hsp]; rfl
          have s110 : sp.getD 110 none = some (eqS (.slice (some ⟨b1, o1, none⟩) j cb)) := by rw [hsp]; rfl
          have s111 : sp.getD 111 none = some (eqS (.int .i64 q)) := by rw [hsp]; rfl
          have s112 : sp.getD 112 none = some (eqS (.pointer (some ⟨b1, o1 + q * 3, none⟩))) := by rw [hsp]; rfl
          have s113 : sp.getD 113 none = some (eqS (.pointer (some ⟨b1, o1 + q * 3 + 1, none⟩))) := by rw [hsp]; rfl
          have s114 : sp.getD 114 none = some (eqS (.string v)) := by rw [hsp]; rfl
          have s115 : sp.getD 115 none = some (eqS (.slice (some ⟨b2, o2, none⟩) n ca)) := by rw [hsp]; rfl
          have s116 : sp.getD 116 none = some (eqS (.int .i64 q)) := by rw [hsp]; rfl
          have s117 : sp.getD 117 none = some (eqS (.pointer (some ⟨b2, o2 + q * 3, none⟩))) := by rw [hsp]; rfl
          have s118 : sp.getD 118 none = some (eqS (.pointer (some ⟨b2, o2 + q * 3 + 1, none⟩))) := by rw [hsp]; rfl
          have s119 : sp.getD 119 none = some (eqS (.string v)) := by rw [hsp]; rfl
          have s120 : sp.getD 120 none = some (eqS (.bool false)) := by rw [hsp]; rfl
          have s121 : sp.getD 121 none = some (eqS (.bool false)) := by rw [hsp]; rfl
          clear hsp
          refine (wpIn_wide (n := 0)).1 (region_allR (RtS sp) (rtS_keep sp) rfl rfl rfl (by kernel_rfl) (by kernel_rfl) (by kernel_rfl) ?_ ?_)
          · intro Q'
            refine obsR_cons ?_ ?_
            · intro T wx K hB hF hD hK
              have g13 : T[13]? = some (.slice (some ⟨b1, o1, none⟩) j cb) := hF 13 (freeM_of (by kernel_rfl))
              refine ob_yes (wanted_none rfl) ?_
              clear hF hD
              go_simp
              exact hK _ _ (Below.refl _ _) (rt_eqS s98)
            refine obsR_cons ?_ ?_
            · intro T wx K hB hF hD hK
              have g16 : T[16]? = some (.int .i64 q) := hF 16 (freeM_of (by kernel_rfl))
              refine ob_yes (wanted_none rfl) ?_
              clear hF hD
              go_simp
              exact hK _ _ (Below.refl _ _) (rt_eqS s99)
            refine obsR_cons ?_ ?_
            · intro T wx K hB hF hD hK
              have g98 := get_eqS (hD 0 98 (by simp [Region.binds]) (by kernel_rfl)) s98
              have g99 := get_eqS (hD 1 99 (by simp [Region.binds]) (by kernel_rfl)) s99
              refine ob_yes (wanted_none rfl) ?_
              clear hF hD
              go_simp
              exact hK _ _ (Below.refl _ _) (rt_eqS s100)
            refine obsR_cons ?_ ?_
            · intro T wx K hB hF hD hK
              have g100 := get_eqS (hD 2 100 (by simp [Region.binds]) (by kernel_rfl)) s100
              refine ob_yes (wanted_none rfl) ?_
              clear hF hD
              go_simp
              exact hK _ _ (Below.refl _ _) (rt_eqS s101)
            refine obsR_cons ?_ ?_
            · intro T wx K hB hF hD hK
              have g101 := get_eqS (hD 3 101 (by simp [Region.binds]) (by kernel_rfl)) s101
              refine ob_yes (wanted_none rfl) ?_
              clear hF hD
              have jx := (hB.cell (World.block_lt_of_cell? _ _ d1)).trans d1
              go_simp
              exact hK _ _ (Below.refl _ _) (rt_eqS s102)
            refine obsR_cons ?_ ?_
            · intro T wx K hB hF hD hK
              have g6 : T[6]? = some (.slice (some ⟨b2, o2, none⟩) n ca) := hF 6 (freeM_of (by kernel_rfl))
              refine ob_yes (wanted_none rfl) ?_
              clear hF hD
              go_simp
              exact hK _ _ (Below.refl _ _) (rt_eqS s103)
            refine obsR_cons ?_ ?_
            · intro T wx K hB hF hD hK
              have g16 : T[16]? = some (.int .i64 q) := hF 16 (freeM_of (by kernel_rfl))
              refine ob_yes (wanted_none rfl) ?_
              clear hF hD
              go_simp
              exact hK _ _ (Below.refl _ _) (rt_eqS s104)
            refine obsR_cons ?_ ?_
            · intro T wx K hB hF hD hK
              have g103 := get_eqS (hD 5 103 (by simp [Region.binds]) (by kernel_rfl)) s103
              have g104 := get_eqS (hD 6 104 (by simp [Region.binds]) (by kernel_rfl)) s104
              refine ob_yes (wanted_none rfl) ?_
              clear hF hD
              go_simp
              exact hK _ _ (Below.refl _ _) (rt_eqS s105)
            refine obsR_cons ?_ ?_
            · intro T wx K hB hF hD hK
              have g105 := get_eqS (hD 7 105 (by simp [Region.binds]) (by kernel_rfl)) s105
              refine ob_yes (wanted_none rfl) ?_
              clear hF hD
              go_simp
              exact hK _ _ (Below.refl _ _) (rt_eqS s106)
            refine obsR_cons ?_ ?_
            · intro T wx K hB hF hD hK
              have g106 := get_eqS (hD 8 106 (by simp [Region.binds]) (by kernel_rfl)) s106
              refine ob_yes (wanted_none rfl) ?_
              clear hF hD
              have jx := (hB.cell (World.block_lt_of_cell? _ _ c1)).trans c1
              go_simp
              exact hK _ _ (Below.refl _ _) (rt_eqS s107)
            refine obsR_cons ?_ ?_
            · intro T wx K hB hF hD hK
              have g102 := get_eqS (hD 4 102 (by simp [Region.binds]) (by kernel_rfl)) s102
              have g107 := get_eqS (hD 9 107 (by simp [Region.binds]) (by kernel_rfl)) s107
              refine ob_yes (wanted_none rfl) ?_
              clear hF hD
              go_simp
              exact hK _ _ (Below.refl _ _) (rt_eqS s108)
            refine obsR_cons ?_ ?_
            · intro T wx K hB hF hD hK
              have g108 := get_eqS (hD 10 108 (by simp [Region.binds]) (by kernel_rfl)) s108
              refine ob_yes (wanted_none rfl) ?_
              clear hF hD
              go_simp
              exact hK _ _ (Below.refl _ _) (rt_eqS s109)
            refine obsR_cons ?_ ?_
            · intro T wx K hB hF hD hK
              have g109 := get_eqS (hD 11 109 (by simp [Region.binds]) (by kernel_rfl)) s109
              have g13 : T[13]? = some (.slice (some ⟨b1, o1, none⟩) j cb) := hF 13 (freeM_of (by kernel_rfl))
              refine ob_yes (wanted_yes rfl (by kernel_rfl) g109) ?_
              clear hF hD
              go_simp
              exact hK _ _ (Below.refl _ _) (rt_eqS s110)
            refine obsR_cons ?_ ?_
            · intro T wx K hB hF hD hK
              have g109 := get_eqS (hD 11 109 (by simp [Region.binds]) (by kernel_rfl)) s109
              have g16 : T[16]? = some (.int .i64 q) := hF 16 (freeM_of (by kernel_rfl))
              refine ob_yes (wanted_yes rfl (by kernel_rfl) g109) ?_
              clear hF hD
              go_simp
              exact hK _ _ (Below.refl _ _) (rt_eqS s111)
            refine obsR_cons ?_ ?_
            · intro T wx K hB hF hD hK
              have g109 := get_eqS (hD 11 109 (by simp [Region.binds]) (by kernel_rfl)) s109
              have g110 := get_eqS (hD 12 110 (by simp [Region.binds]) (by kernel_rfl)) s110
              have g111 := get_eqS (hD 13 111 (by simp [Region.binds]) (by kernel_rfl)) s111
              refine ob_yes (wanted_yes rfl (by kernel_rfl) g109) ?_
              clear hF hD
              go_simp
              exact hK _ _ (Below.refl _ _) (rt_eqS s112)
            refine obsR_cons ?_ ?_
            · intro T wx K hB hF hD hK
              have g109 := get_eqS (hD 11 109 (by simp [Region.binds]) (by kernel_rfl)) s109
              have g112 := get_eqS (hD 14 112 (by simp [Region.binds]) (by kernel_rfl)) s112
              refine ob_yes (wanted_yes rfl (by kernel_rfl) g109) ?_
              clear hF hD
              go_simp
              exact hK _ _ (Below.refl _ _) (rt_eqS s113)
            refine obsR_cons ?_ ?_
            · intro T wx K hB hF hD hK
              have g109 := get_eqS (hD 11 109 (by simp [Region.binds]) (by kernel_rfl)) s109
              have g113 := get_eqS (hD 15 113 (by simp [Region.binds]) (by kernel_rfl)) s113
              refine ob_yes (wanted_yes rfl (by kernel_rfl) g109) ?_
              clear hF hD
              have jx := (hB.cell (World.block_lt_of_cell? _ _ d2)).trans d2
              go_simp
              exact hK _ _ (Below.refl _ _) (rt_eqS s114)
            refine obsR_cons ?_ ?_
            · intro T wx K hB hF hD hK
              have g109 := get_eqS (hD 11 109 (by simp [Region.binds]) (by kernel_rfl)) s109
              have g6 : T[6]? = some (.slice (some ⟨b2, o2, none⟩) n ca) := hF 6 (freeM_of (by kernel_rfl))
              refine ob_yes (wanted_yes rfl (by kernel_rfl) g109) ?_
              clear hF hD
              go_simp
              exact hK _ _ (Below.refl _ _) (rt_eqS s115)
            refine obsR_cons ?_ ?_
            · intro T wx K hB hF hD hK
              have g109 := get_eqS (hD 11 109 (by simp [Region.binds]) (by kernel_rfl)) s109
              have g16 : T[16]? = some (.int .i64 q) := hF 16 (freeM_of (by kernel_rfl))
              refine ob_yes (wanted_yes rfl (by kernel_rfl) g109) ?_
              clear hF hD
              go_simp
              exact hK _ _ (Below.refl _ _) (rt_eqS s116)
            refine obsR_cons ?_ ?_
            · intro T wx K hB hF hD hK
              have g109 := get_eqS (hD 11 109 (by simp [Region.binds]) (by kernel_rfl)) s109
              have g115 := get_eqS (hD 17 115 (by simp [Region.binds]) (by kernel_rfl)) s115
              have g116 := get_eqS (hD 18 116 (by simp [Region.binds]) (by kernel_rfl)) s116
              refine ob_yes (wanted_yes rfl (by kernel_rfl) g109) ?_
              clear hF hD
              go_simp
              exact hK _ _ (Below.refl _ _) (rt_eqS s117)
            refine obsR_cons ?_ ?_
            · intro T wx K hB hF hD hK
              have g109 := get_eqS (hD 11 109 (by simp [Region.binds]) (by kernel_rfl)) s109
              have g117 := get_eqS (hD 19 117 (by simp [Region.binds]) (by kernel_rfl)) s117
              refine ob_yes (wanted_yes rfl (by kernel_rfl) g109) ?_
              clear hF hD
              go_simp
              exact hK _ _ (Below.refl _ _) (rt_eqS s118)
            refine obsR_cons ?_ ?_
            · intro T wx K hB hF hD hK
              have g109 := get_eqS (hD 11 109 (by simp [Region.binds]) (by kernel_rfl)) s109
              have g118 := get_eqS (hD 20 118 (by simp [Region.binds]) (by kernel_rfl)) s118
              refine ob_yes (wanted_yes rfl (by kernel_rfl) g109) ?_
              clear hF hD
              have jx := (hB.cell (World.block_lt_of_cell? _ _ c2)).trans c2
              go_simp
              exact hK _ _ (Below.refl _ _) (rt_eqS s119)
            refine obsR_cons ?_ ?_
            · intro T wx K hB hF hD hK
              have g109 := get_eqS (hD 11 109 (by simp [Region.binds]) (by kernel_rfl)) s109
              have g114 := get_eqS (hD 16 114 (by simp [Region.binds]) (by kernel_rfl)) s114
              have g119 := get_eqS (hD 21 119 (by simp [Region.binds]) (by kernel_rfl)) s119
              refine ob_yes (wanted_yes rfl (by kernel_rfl) g109) ?_
              clear hF hD
              go_simp
              exact hK _ _ (Below.refl _ _) (rt_eqS s120)
            refine obsR_cons ?_ ?_
            · intro T wx K hB hF hD hK
              have g109 := get_eqS (hD 11 109 (by simp [Region.binds]) (by kernel_rfl)) s109
              have g120 := get_eqS (hD 22 120 (by simp [Region.binds]) (by kernel_rfl)) s120
              refine ob_yes (wanted_none rfl) ?_
              clear hF hD
              go_simp
              exact hK _ _ (Below.refl _ _) (rt_eqS s121)
            exact obsR_nil
          · intro Tz Wz hb8 hF hs hD
            have g98 := get_eqS (hD 0 98 (by decide) (by kernel_rfl)) s98
            have g99 := get_eqS (hD 1 99 (by decide) (by kernel_rfl)) s99
            have g100 := get_eqS (hD 2 100 (by decide) (by kernel_rfl)) s100
            have g101 := get_eqS (hD 3 101 (by decide) (by kernel_rfl)) s101
            have g102 := get_eqS (hD 4 102 (by decide) (by kernel_rfl)) s102
            have g103 := get_eqS (hD 5 103 (by decide) (by kernel_rfl)) s103
            have g104 := get_eqS (hD 6 104 (by decide) (by kernel_rfl)) s104
            have g105 := get_eqS (hD 7 105 (by decide) (by kernel_rfl)) s105
            have g106 := get_eqS (hD 8 106 (by decide) (by kernel_rfl)) s106
            have g107 := get_eqS (hD 9 107 (by decide) (by kernel_rfl)) s107
            have g108 := get_eqS (hD 10 108 (by decide) (by kernel_rfl)) s108
            have g109 := get_eqS (hD 11 109 (by decide) (by kernel_rfl)) s109
            have g110 := get_eqS (hD 12 110 (by decide) (by kernel_rfl)) s110
            have g111 := get_eqS (hD 13 111 (by decide) (by kernel_rfl)) s111
            have g112 := get_eqS (hD 14 112 (by decide) (by kernel_rfl)) s112
            have g113 := get_eqS (hD 15 113 (by decide) (by kernel_rfl)) s113
            have g114 := get_eqS (hD 16 114 (by decide) (by kernel_rfl)) s114
            have g115 := get_eqS (hD 17 115 (by decide) (by kernel_rfl)) s115
            have g116 := get_eqS (hD 18 116 (by decide) (by kernel_rfl)) s116
            have g117 := get_eqS (hD 19 117 (by decide) (by kernel_rfl)) s117
            have g118 := get_eqS (hD 20 118 (by decide) (by kernel_rfl)) s118
            have g119 := get_eqS (hD 21 119 (by decide) (by kernel_rfl)) s119
            have g120 := get_eqS (hD 22 120 (by decide) (by kernel_rfl)) s120
            have g121 := get_eqS (hD 23 121 (by decide) (by kernel_rfl)) s121
            have hT9 := conc [(98, .slice (some ⟨b1, o1, none⟩) j cb), (99, .int .i64 q), (100, .pointer (some ⟨b1, o1 + q * 3, none⟩)), (101, .pointer (some ⟨b1, o1 + q * 3, none⟩)), (102, .int .i64 k), (103, .slice (some ⟨b2, o2, none⟩) n ca), (104, .int .i64 q), (105, .pointer (some ⟨b2, o2 + q * 3, none⟩)), (106, .pointer (some ⟨b2, o2 + q * 3, none⟩)), (107, .int .i64 k), (108, .bool false), (109, .bool false), (110, .slice (some ⟨b1, o1, none⟩) j cb), (111, .int .i64 q), (112, .pointer (some ⟨b1, o1 + q * 3, none⟩)), (113, .pointer (some ⟨b1, o1 + q * 3 + 1, none⟩)), (114, .string v), (115, .slice (some ⟨b2, o2, none⟩) n ca), (116, .int .i64 q), (117, .pointer (some ⟨b2, o2 + q * 3, none⟩)), (118, .pointer (some ⟨b2, o2 + q * 3 + 1, none⟩)), (119, .string v), (120, .bool false), (121, .bool false)] hs hF (by simp only [List.forall_mem_cons]; exact ⟨g98, g99, g100, g101, g102, g103, g104, g105, g106, g107, g108, g109, g110, g111, g112, g113, g114, g115, g116, g117, g118, g119, g120, g121, fun p hp => absurd hp List.not_mem_nil⟩) (by kernel_rfl)
            simp only [List.foldl, List.setIfInBounds_toArray, List.set_cons_succ, List.set_cons_zero] at hT9
            subst hT9
            clear hF hD hs g98 g99 g100 g101 g102 g103 g104 g105 g106 g107 g108 g109 g110 g111 g112 g113 g114 g115 g116 g117 g118 g119 g120 g121 s98 s99 s100 s101 s102 s103 s104 s105 s106 s107 s108 s109 s110 s111 s112 s113 s114 s115 s116 s117 s118 s119 s120 s121
            have B7 := Lib.hid (belT HB5.out hb8)
            clear hb8 c1 c2 d1 d2
            go_wp2_with fail
            exact ⟨⟨q + 1, by omega, by go_num, B7⟩, by simp [intOf]; omega⟩
      have h6' : (x.size : Int) < 6000 := by omega
      have hjt : j < ts.length := by rw [HN.out]; exact hlt
      have TZ := tok_size HL.out j hjt
      rw [bl_len, ← bsA_size] at TZ
      have NX : Hid (∀ k, Joined ts (j + 1) (x ++ bsA (ts.getD j tok0).2.1 ++ gapZ k)) := Lib.hid (fun k => joined_next HJ.out hjt (lexes_toks HL.out) (gapZ k) (gapZ_gap k).1)
      obtain ⟨b2, o2, rfl, c1, c2, c3⟩ := R4.out j hjt
      clear c1 c3 hjt HJ
      generalize bsA (ts.getD j tok0).2.1 = u at *
      obtain ⟨d, hd⟩ : ∃ d, x ++ u = d := ⟨_, rfl⟩
      have dz : d.size = x.size + u.size := by rw [← hd, ByteArray.size_append]
      have ad1 : ∀ w : World, (Op.stringOp .add x u).run Tryd.prog w = .ok (.string d) w := fun w => by rw [← hd]; exact run_string_add_sum _ _ _ (by omega)
      rw [hd] at NX
      clear hd
      by_cases hh : j < m
      · obtain ⟨b3, o3, rfl, e1, e2, e3⟩ := (urow_below HW.out (belT B4.out (Below.refl _ _))) j (by rw [HM.out]; exact hh)
        generalize how.getD j 0 = hv at *
        obtain ⟨kk, hkk⟩ : ∃ kk : Nat, hv % 5 = (kk : Int) := ⟨(hv % 5).toNat, by omega⟩
        have hk5 : kk < 5 := by omega
        have hkt : hv.tmod 5 = (kk : Int) := by rw [Int.tmod_eq_emod_of_nonneg e2, hkk]
        have hg := gap_cell HG4.out hk5
        have gz := (gapZ_gap kk).2
        have NY := Lib.hid (NX.out kk)
        generalize gapZ kk = g at *
        obtain ⟨y, hy⟩ : ∃ y, d ++ g = y := ⟨_, rfl⟩
        have yz : y.size ≤ 8100 := by rw [← hy, ByteArray.size_append]; omega
        have ad2 : ∀ w : World, (Op.stringOp .add d g).run Tryd.prog w = .ok (.string y) w := fun w => by rw [← hy]; exact run_string_add_sum _ _ _ (by omega)
        have HY : Hid (Joined ts (j + 1) y) := Lib.hid (by rw [← hy]; exact NY.out)
        have hki : (kk : Int) < 5 := by omega
        have hhi : (j : Int) < m := by omega
        clear hy NX NY gz dz
        go_upto_region 13 with fail
        obtain ⟨sp, hsp⟩ : ∃ sp : ToldS, sp = [none, none, none, none, none, none, none, none, none, none, none, none, none, none, none, none, none, none, none, none, none, none, none, none, none, none, none, none, none, none, none, none, none, none, none, none, none, none, none, none, none, none, none, none, none, none, none, none, none, none, none, none, none, none, some (eqS (.string x)), some (eqS (.slice (some ⟨b2, o2, none⟩) n ca)), some (eqS (.int .i64 j)), some (eqS (.pointer (some ⟨b2, o2 + j * 3, none⟩))), some (eqS (.pointer (some ⟨b2, o2 + j * 3 + 1, none⟩))), some (eqS (.string u)), some (eqS (.string d)), some (eqS (.slice (some ⟨bg, 0, none⟩) 5 5)), some (eqS (.int .i64 kk)), some (eqS (.pointer (some ⟨bg, kk, none⟩))), some (eqS (.string g)), some (eqS (.string y))] := ⟨_, rfl⟩
        have s54 : sp.getD 54 none = some (eqS (.string x)) := by rw [hsp]; rfl
        have s55 : sp.getD 55 none = some (eqS (.slice (some ⟨b2, o2, none⟩) n ca)) := by rw [hsp]; rfl
        have s56 : sp.getD 56 none = some (eqS (.int .i64 j)) := by rw [hsp]; rfl
        have s57 : sp.getD 57 none = some (eqS (.pointer (some ⟨b2, o2 + j * 3, none⟩))) := by rw [hsp]; rfl
        have s58 : sp.getD 58 none = some (eqS (.pointer (some ⟨b2, o2 + j * 3 + 1, none⟩))) := by rw [hsp]; rfl
        have s59 : sp.getD 59 none = some (eqS (.string u)) := by rw [hsp]; rfl
        have s60 : sp.getD 60 none = some (eqS (.string d)) := by rw [hsp]; rfl
        have s61 : sp.getD 61 none = some (eqS (.slice (some ⟨bg, 0, none⟩) 5 5)) := by rw [hsp]; rfl
        have s62 : sp.getD 62 none = some (eqS (.int .i64 kk)) := by rw [hsp]; rfl
        have s63 : sp.getD 63 none = some (eqS (.pointer (some ⟨bg, kk, none⟩))) := by rw [hsp]; rfl
        have s64 : sp.getD 64 none = some (eqS (.string g)) := by rw [hsp]; rfl
        have s65 : sp.getD 65 none = some (eqS (.string y)) := by rw [hsp]; rfl
        clear hsp
        refine (wpIn_wide (n := 0)).1 (region_headR (RtS sp) (rtS_keep sp) 12 rfl rfl rfl (by kernel_rfl) (by decide) (by kernel_rfl) (by kernel_rfl) (by kernel_rfl) ?_ ?_)
        · intro Q'; show ObsR _ _ _ _ _ _ _ _ (List.take _ _); simp only [List.take_succ_cons, List.take_zero]
          refine obsR_cons ?_ ?_
          · intro T wx K hB hF hD hK
            have g10 : T[10]? = some (.string x) := hF 10 (freeM_of (by kernel_rfl))
            refine ob_yes (wanted_none rfl) ?_
            clear hF hD
            go_simp
            exact hK _ _ (Below.refl _ _) (rt_eqS s54)
          refine obsR_cons ?_ ?_
          · intro T wx K hB hF hD hK
            have g6 : T[6]? = some (.slice (some ⟨b2, o2, none⟩) n ca) := hF 6 (freeM_of (by kernel_rfl))
            refine ob_yes (wanted_none rfl) ?_
            clear hF hD
            go_simp
            exact hK _ _ (Below.refl _ _) (rt_eqS s55)
          refine obsR_cons ?_ ?_
          · intro T wx K hB hF hD hK
            have g11 : T[11]? = some (.int .i64 j) := hF 11 (freeM_of (by kernel_rfl))
            refine ob_yes (wanted_none rfl) ?_
            clear hF hD
            go_simp
            exact hK _ _ (Below.refl _ _) (rt_eqS s56)
          refine obsR_cons ?_ ?_
          · intro T wx K hB hF hD hK
            have g55 := get_eqS (hD 1 55 (by simp [Region.binds]) (by kernel_rfl)) s55
            have g56 := get_eqS (hD 2 56 (by simp [Region.binds]) (by kernel_rfl)) s56
            refine ob_yes (wanted_none rfl) ?_
            clear hF hD
            go_simp
            exact hK _ _ (Below.refl _ _) (rt_eqS s57)
          refine obsR_cons ?_ ?_
          · intro T wx K hB hF hD hK
            have g57 := get_eqS (hD 3 57 (by simp [Region.binds]) (by kernel_rfl)) s57
            refine ob_yes (wanted_none rfl) ?_
            clear hF hD
            go_simp
            exact hK _ _ (Below.refl _ _) (rt_eqS s58)
          refine obsR_cons ?_ ?_
          · intro T wx K hB hF hD hK
            have g58 := get_eqS (hD 4 58 (by simp [Region.binds]) (by kernel_rfl)) s58
            refine ob_yes (wanted_none rfl) ?_
            clear hF hD
            have jx := (hB.cell (World.block_lt_of_cell? _ _ c2)).trans c2
            go_simp
            exact hK _ _ (Below.refl _ _) (rt_eqS s59)
          refine obsR_cons ?_ ?_
          · intro T wx K hB hF hD hK
            have g54 := get_eqS (hD 0 54 (by simp [Region.binds]) (by kernel_rfl)) s54
            have g59 := get_eqS (hD 5 59 (by simp [Region.binds]) (by kernel_rfl)) s59
            refine ob_yes (wanted_none rfl) ?_
            clear hF hD
            go_simp
            exact hK _ _ (Below.refl _ _) (rt_eqS s60)
          refine obsR_cons ?_ ?_
          · intro T wx K hB hF hD hK
            have g9 : T[9]? = some (.slice (some ⟨bg, 0, none⟩) 5 5) := hF 9 (freeM_of (by kernel_rfl))
            refine ob_yes (wanted_none rfl) ?_
            clear hF hD
            go_simp
            exact hK _ _ (Below.refl _ _) (rt_eqS s61)
          refine obsR_cons ?_ ?_
          · intro T wx K hB hF hD hK
            have g12 : T[12]? = some (.int .i64 kk) := hF 12 (freeM_of (by kernel_rfl))
            refine ob_yes (wanted_none rfl) ?_
            clear hF hD
            go_simp
            exact hK _ _ (Below.refl _ _) (rt_eqS s62)
          refine obsR_cons ?_ ?_
          · intro T wx K hB hF hD hK
            have g61 := get_eqS (hD 7 61 (by simp [Region.binds]) (by kernel_rfl)) s61
            have g62 := get_eqS (hD 8 62 (by simp [Region.binds]) (by kernel_rfl)) s62
            refine ob_yes (wanted_none rfl) ?_
            clear hF hD
            go_simp
            exact hK _ _ (Below.refl _ _) (rt_eqS s63)
          refine obsR_cons ?_ ?_
          · intro T wx K hB hF hD hK
            have g63 := get_eqS (hD 9 63 (by simp [Region.binds]) (by kernel_rfl)) s63
            refine ob_yes (wanted_none rfl) ?_
            clear hF hD
            have jx := (hB.cell (World.block_lt_of_cell? _ _ hg)).trans hg
            go_simp
            exact hK _ _ (Below.refl _ _) (rt_eqS s64)
          refine obsR_cons ?_ ?_
          · intro T wx K hB hF hD hK
            have g60 := get_eqS (hD 6 60 (by simp [Region.binds]) (by kernel_rfl)) s60
            have g64 := get_eqS (hD 10 64 (by simp [Region.binds]) (by kernel_rfl)) s64
            refine ob_yes (wanted_none rfl) ?_
            clear hF hD
            go_simp
            exact hK _ _ (Below.refl _ _) (rt_eqS s65)
          exact obsR_nil
        · intro Tx Wx hb8 hF hs hD
          have g54 := get_eqS (hD 0 54 (by decide) (by kernel_rfl)) s54
          have g55 := get_eqS (hD 1 55 (by decide) (by kernel_rfl)) s55
          have g56 := get_eqS (hD 2 56 (by decide) (by kernel_rfl)) s56
          have g57 := get_eqS (hD 3 57 (by decide) (by kernel_rfl)) s57
          have g58 := get_eqS (hD 4 58 (by decide) (by kernel_rfl)) s58
          have g59 := get_eqS (hD 5 59 (by decide) (by kernel_rfl)) s59
          have g60 := get_eqS (hD 6 60 (by decide) (by kernel_rfl)) s60
          have g61 := get_eqS (hD 7 61 (by decide) (by kernel_rfl)) s61
          have g62 := get_eqS (hD 8 62 (by decide) (by kernel_rfl)) s62
          have g63 := get_eqS (hD 9 63 (by decide) (by kernel_rfl)) s63
          have g64 := get_eqS (hD 10 64 (by decide) (by kernel_rfl)) s64
          have g65 := get_eqS (hD 11 65 (by decide) (by kernel_rfl)) s65
          have hT9 := conc [(54, .string x), (55, .slice (some ⟨b2, o2, none⟩) n ca), (56, .int .i64 j), (57, .pointer (some ⟨b2, o2 + j * 3, none⟩)), (58, .pointer (some ⟨b2, o2 + j * 3 + 1, none⟩)), (59, .string u), (60, .string d), (61, .slice (some ⟨bg, 0, none⟩) 5 5), (62, .int .i64 kk), (63, .pointer (some ⟨bg, kk, none⟩)), (64, .string g), (65, .string y)] hs hF (by simp only [List.forall_mem_cons]; exact ⟨g54, g55, g56, g57, g58, g59, g60, g61, g62, g63, g64, g65, fun p hp => absurd hp List.not_mem_nil⟩) (by kernel_rfl)
          simp only [List.foldl, List.setIfInBounds_toArray, List.set_cons_succ, List.set_cons_zero] at hT9
          subst hT9
          clear hF hD hs g54 g55 g56 g57 g58 g59 g60 g61 g62 g63 g64 g65 s54 s55 s56 s57 s58 s59 s60 s61 s62 s63 s64 s65
          show wpOpsIn _ _ _ _ _ [12] _ _
          refine tail_one rfl rfl rfl rfl rfl (by intro c e; cases e) ?_
          go_simp
          simp only [wpOpsIn]
          have B7 := Lib.hid (belT HB.out hb8)
          clear hb8 c2 hg ad1 ad2
          go_wp2_with fail
          exact ⟨⟨j + 1, by omega, by go_num, ⟨y, rfl, yz, HY⟩, B7⟩, by simp [intOf]; omega⟩
      · have hhi : ¬ (j : Int) < m := by omega
        have hg := gap_cell HG4.out (k := 0) (by omega)
        have gz := (gapZ_gap 0).2
        have NY := Lib.hid (NX.out 0)
        generalize gapZ 0 = g at *
        obtain ⟨y, hy⟩ : ∃ y, d ++ g = y := ⟨_, rfl⟩
        have yz : y.size ≤ 8100 := by rw [← hy, ByteArray.size_append]; omega
        have ad2 : ∀ w : World, (Op.stringOp .add d g).run Tryd.prog w = .ok (.string y) w := fun w => by rw [← hy]; exact run_string_add_sum _ _ _ (by omega)
        have HY : Hid (Joined ts (j + 1) y) := Lib.hid (by rw [← hy]; exact NY.out)
        clear hy NX NY gz dz
        go_upto_region 13 with fail
        obtain ⟨sp, hsp⟩ : ∃ sp : ToldS, sp = [none, none, none, none, none, none, none, none, none, none, none, none, none, none, none, none, none, none, none, none, none, none, none, none, none, none, none, none, none, none, none, none, none, none, none, none, none, none, none, none, none, none, none, none, none, none, none, none, none, none, none, none, none, none, some (eqS (.string x)), some (eqS (.slice (some ⟨b2, o2, none⟩) n ca)), some (eqS (.int .i64 j)), some (eqS (.pointer (some ⟨b2, o2 + j * 3, none⟩))), some (eqS (.pointer (some ⟨b2, o2 + j * 3 + 1, none⟩))), some (eqS (.string u)), some (eqS (.string d)), some (eqS (.slice (some ⟨bg, 0, none⟩) 5 5)), some (eqS (.int .i64 0)), some (eqS (.pointer (some ⟨bg, 0, none⟩))), some (eqS (.string g)), some (eqS (.string y))] := ⟨_, rfl⟩
        have s54 : sp.getD 54 none = some (eqS (.string x)) := by rw [hsp]; rfl
        have s55 : sp.getD 55 none = some (eqS (.slice (some ⟨b2, o2, none⟩) n ca)) := by rw [hsp]; rfl
        have s56 : sp.getD 56 none = some (eqS (.int .i64 j)) := by rw [hsp]; rfl
        have s57 : sp.getD 57 none = some (eqS (.pointer (some ⟨b2, o2 + j * 3, none⟩))) := by rw [hsp]; rfl
        have s58 : sp.getD 58 none = some (eqS (.pointer (some ⟨b2, o2 + j * 3 + 1, none⟩))) := by rw [hsp]; rfl
        have s59 : sp.getD 59 none = some (eqS (.string u)) := by rw [hsp]; rfl
        have s60 : sp.getD 60 none = some (eqS (.string d)) := by rw [hsp]; rfl
        have s61 : sp.getD 61 none = some (eqS (.slice (some ⟨bg, 0, none⟩) 5 5)) := by rw [hsp]; rfl
        have s62 : sp.getD 62 none = some (eqS (.int .i64 0)) := by rw [hsp]; rfl
        have s63 : sp.getD 63 none = some (eqS (.pointer (some ⟨bg, 0, none⟩))) := by rw [hsp]; rfl
        have s64 : sp.getD 64 none = some (eqS (.string g)) := by rw [hsp]; rfl
        have s65 : sp.getD 65 none = some (eqS (.string y)) := by rw [hsp]; rfl
        clear hsp
        refine (wpIn_wide (n := 0)).1 (region_headR (RtS sp) (rtS_keep sp) 12 rfl rfl rfl (by kernel_rfl) (by decide) (by kernel_rfl) (by kernel_rfl) (by kernel_rfl) ?_ ?_)
        · intro Q'; show ObsR _ _ _ _ _ _ _ _ (List.take _ _); simp only [List.take_succ_cons, List.take_zero]
          refine obsR_cons ?_ ?_
          · intro T wx K hB hF hD hK
            have g10 : T[10]? = some (.string x) := hF 10 (freeM_of (by kernel_rfl))
            refine ob_yes (wanted_none rfl) ?_
            clear hF hD
            go_simp
            exact hK _ _ (Below.refl _ _) (rt_eqS s54)
          refine obsR_cons ?_ ?_
          · intro T wx K hB hF hD hK
            have g6 : T[6]? = some (.slice (some ⟨b2, o2, none⟩) n ca) := hF 6 (freeM_of (by kernel_rfl))
            refine ob_yes (wanted_none rfl) ?_
            clear hF hD
            go_simp
            exact hK _ _ (Below.refl _ _) (rt_eqS s55)
          refine obsR_cons ?_ ?_
          · intro T wx K hB hF hD hK
            have g11 : T[11]? = some (.int .i64 j) := hF 11 (freeM_of (by kernel_rfl))
            refine ob_yes (wanted_none rfl) ?_
            clear hF hD
            go_simp
            exact hK _ _ (Below.refl _ _) (rt_eqS s56)
          refine obsR_cons ?_ ?_
          · intro T wx K hB hF hD hK
            have g55 := get_eqS (hD 1 55 (by simp [Region.binds]) (by kernel_rfl)) s55
            have g56 := get_eqS (hD 2 56 (by simp [Region.binds]) (by kernel_rfl)) s56
            refine ob_yes (wanted_none rfl) ?_
            clear hF hD
            go_simp
            exact hK _ _ (Below.refl _ _) (rt_eqS s57)
          refine obsR_cons ?_ ?_
          · intro T wx K hB hF hD hK
            have g57 := get_eqS (hD 3 57 (by simp [Region.binds]) (by kernel_rfl)) s57
            refine ob_yes (wanted_none rfl) ?_
            clear hF hD
            go_simp
            exact hK _ _ (Below.refl _ _) (rt_eqS s58)
          refine obsR_cons ?_ ?_
          · intro T wx K hB hF hD hK
            have g58 := get_eqS (hD 4 58 (by simp [Region.binds]) (by kernel_rfl)) s58
            refine ob_yes (wanted_none rfl) ?_
            clear hF hD
            have jx := (hB.cell (World.block_lt_of_cell? _ _ c2)).trans c2
            go_simp
            exact hK _ _ (Below.refl _ _) (rt_eqS s59)
          refine obsR_cons ?_ ?_
          · intro T wx K hB hF hD hK
            have g54 := get_eqS (hD 0 54 (by simp [Region.binds]) (by kernel_rfl)) s54
            have g59 := get_eqS (hD 5 59 (by simp [Region.binds]) (by kernel_rfl)) s59
            refine ob_yes (wanted_none rfl) ?_
            clear hF hD
            go_simp
            exact hK _ _ (Below.refl _ _) (rt_eqS s60)
          refine obsR_cons ?_ ?_
          · intro T wx K hB hF hD hK
            have g9 : T[9]? = some (.slice (some ⟨bg, 0, none⟩) 5 5) := hF 9 (freeM_of (by kernel_rfl))
            refine ob_yes (wanted_none rfl) ?_
            clear hF hD
            go_simp
            exact hK _ _ (Below.refl _ _) (rt_eqS s61)
          refine obsR_cons ?_ ?_
          · intro T wx K hB hF hD hK
            have g12 : T[12]? = some (.int .i64 0) := hF 12 (freeM_of (by kernel_rfl))
            refine ob_yes (wanted_none rfl) ?_
            clear hF hD
            go_simp
            exact hK _ _ (Below.refl _ _) (rt_eqS s62)
          refine obsR_cons ?_ ?_
          · intro T wx K hB hF hD hK
            have g61 := get_eqS (hD 7 61 (by simp [Region.binds]) (by kernel_rfl)) s61
            have g62 := get_eqS (hD 8 62 (by simp [Region.binds]) (by kernel_rfl)) s62
            refine ob_yes (wanted_none rfl) ?_
            clear hF hD
            go_simp
            exact hK _ _ (Below.refl _ _) (rt_eqS s63)
          refine obsR_cons ?_ ?_
          · intro T wx K hB hF hD hK
            have g63 := get_eqS (hD 9 63 (by simp [Region.binds]) (by kernel_rfl)) s63
            refine ob_yes (wanted_none rfl) ?_
            clear hF hD
            have jx := (hB.cell (World.block_lt_of_cell? _ _ hg)).trans hg
            go_simp
            exact hK _ _ (Below.refl _ _) (rt_eqS s64)
          refine obsR_cons ?_ ?_
          · intro T wx K hB hF hD hK
            have g60 := get_eqS (hD 6 60 (by simp [Region.binds]) (by kernel_rfl)) s60
            have g64 := get_eqS (hD 10 64 (by simp [Region.binds]) (by kernel_rfl)) s64
            refine ob_yes (wanted_none rfl) ?_
            clear hF hD
            go_simp
            exact hK _ _ (Below.refl _ _) (rt_eqS s65)
          exact obsR_nil
        · intro Tx Wx hb8 hF hs hD
          have g54 := get_eqS (hD 0 54 (by decide) (by kernel_rfl)) s54
          have g55 := get_eqS (hD 1 55 (by decide) (by kernel_rfl)) s55
          have g56 := get_eqS (hD 2 56 (by decide) (by kernel_rfl)) s56
          have g57 := get_eqS (hD 3 57 (by decide) (by kernel_rfl)) s57
          have g58 := get_eqS (hD 4 58 (by decide) (by kernel_rfl)) s58
          have g59 := get_eqS (hD 5 59 (by decide) (by kernel_rfl)) s59
          have g60 := get_eqS (hD 6 60 (by decide) (by kernel_rfl)) s60
          have g61 := get_eqS (hD 7 61 (by decide) (by kernel_rfl)) s61
          have g62 := get_eqS (hD 8 62 (by decide) (by kernel_rfl)) s62
          have g63 := get_eqS (hD 9 63 (by decide) (by kernel_rfl)) s63
          have g64 := get_eqS (hD 10 64 (by decide) (by kernel_rfl)) s64
          have g65 := get_eqS (hD 11 65 (by decide) (by kernel_rfl)) s65
          have hT9 := conc [(54, .string x), (55, .slice (some ⟨b2, o2, none⟩) n ca), (56, .int .i64 j), (57, .pointer (some ⟨b2, o2 + j * 3, none⟩)), (58, .pointer (some ⟨b2, o2 + j * 3 + 1, none⟩)), (59, .string u), (60, .string d), (61, .slice (some ⟨bg, 0, none⟩) 5 5), (62, .int .i64 0), (63, .pointer (some ⟨bg, 0, none⟩)), (64, .string g), (65, .string y)] hs hF (by simp only [List.forall_mem_cons]; exact ⟨g54, g55, g56, g57, g58, g59, g60, g61, g62, g63, g64, g65, fun p hp => absurd hp List.not_mem_nil⟩) (by kernel_rfl)
          simp only [List.foldl, List.setIfInBounds_toArray, List.set_cons_succ, List.set_cons_zero] at hT9
          subst hT9
          clear hF hD hs g54 g55 g56 g57 g58 g59 g60 g61 g62 g63 g64 g65 s54 s55 s56 s57 s58 s59 s60 s61 s62 s63 s64 s65
          show wpOpsIn _ _ _ _ _ [12] _ _
          refine tail_one rfl rfl rfl rfl rfl (by intro c e; cases e) ?_
          go_simp
          simp only [wpOpsIn]
          have B7 := Lib.hid (belT HB.out hb8)
          clear hb8 c2 hg ad1 ad2
          go_wp2_with fail
          exact ⟨⟨j + 1, by omega, by go_num, ⟨y, rfl, yz, HY⟩, B7⟩, by simp [intOf]; omega⟩

set_option maxRecDepth 100000 in
theorem lifted (os : Os) (started : os.Started) (H : Type) (enc : TypeId × Value → H) :
    ReturnsInHanded {} Tryd.checked os 5 .any (fun w args => (Rows.lexerStableSpec.pre enc Tryd.prog Tryd.f5 [] false w args ∧ laidMetH Tryd.prog Rows.lexerStableRow.laid w) ∧ sizedMet enc Tryd.prog Tryd.f5 (OpenSpec.ofChange Rows.lexerStableSpec) false w args)
      (Rows.lexerStableSpec.post enc Tryd.prog Tryd.f5 false true false false) := by
  refine returnsInHanded_of_change_and (C := Tryd.checked) (X := fun w _ => laidMetH Tryd.prog Rows.lexerStableRow.laid w) (fun _ _ _ hh h => h.of_heap hh) own started (by kernel_rfl) Tryd.func5
    (ChangeSpec.witness_shaped (enc := enc) (C := Tryd.checked) (os := os) (X := fun w _ => laidMetH Tryd.prog Rows.lexerStableRow.laid w) false (World.doorLaid Tryd.prog 600 os) #[.string ⟨#[]⟩, .slice none 0 0] 8 rfl (World.shaped_of_RefB (by kernel_rfl) (by kernel_rfl)) (by kernel_rfl) (by kernel_rfl) (by kernel_rfl) (show laidMetH Tryd.prog [(qn, Rows.laid_ambidexter_lexer_classes)] _ from door_met os _)) ?_
  intro W base args ds gs before hval0 hW _ _ hL _
  have hval : ∀ (j : Nat) t v, Tryd.f5.params[j]? = some t → args[j]? = some v → Value.okWide Tryd.prog W .any base t v := hval0
  have hW' := hW
  obtain ⟨p, q, hA0, hV, rfl, hfz, hnd⟩ := hW
  have hA : DataW.TrodAll enc Tryd.prog W 0 (fun _ => true) true Tryd.f5.params.toList args.toList ds p := hA0
  rw [Tryd.params5] at hA hval
  obtain ⟨v0, vs0, d0, ds0, p0, q0, hargs, rfl, rfl, h0, r0⟩ := trodAll_cons hA
  obtain ⟨v1, vs1, d1, ds1, p1, q1, rfl, rfl, rfl, h1, r1⟩ := trodAll_cons r0
  obtain ⟨rfl, rfl, rfl⟩ := trodAll_nil r1
  obtain rfl : args = #[v0, v1] := by cases args; simp_all
  obtain ⟨rfl, rfl⟩ := trodVars_none hV
  obtain ⟨a0, rfl, rfl, rfl, w0⟩ := Go.ChangeMaps.open_string Tryd.underlying9 (hval 0 9 v0 rfl rfl) h0
  have k1 := h1
  have lt1 : ∀ x ∈ p1, x.block < W.heap.size := by obtain ⟨m, hm⟩ := k1; exact DataW.trod_lt m _ _ _ hm
  obtain ⟨a1, cap1, l1, rfl, n1, w1⟩ := HFr.open_u8s (hval 1 32 v1 rfl rfl) h1
  clear hA0 hval0
  simp only [List.append_nil] at hW'
  refine (walk (w := W) (hTab := tab_of_laid hL) a0 w0 a1 cap1 l1 n1 w1).mono fun e W' ⟨he, bel⟩ => ?_
  subst he
  exact ⟨_, rfl, _, _, _, [], _, [], hW', trodAll_mk1 (shut_bool Tryd.underlying4 _), (trodAll_cons_mk (Go.ChangeMaps.shut_string Tryd.underlying9 w0) (trodAll_cons_mk (Below.trod HFr.laidOut (by kernel_rfl) (of_decide_eq_true (by kernel_rfl)) k1 bel lt1) trodAll_mk0)), rfl, bel.frame _, fun h => by cases h⟩

theorem holds : Rows.LexerStableSaid :=
  OpenClaim.holds_of_wide 5 Tryd.f5 rfl rfl rfl rfl rfl rfl rfl ⟨rfl, rfl, rfl, rfl, rfl⟩ rfl rfl rfl rfl rfl (by kernel_rfl) Tryd.func5 (by kernel_rfl)
    (of_decide_eq_true (by kernel_rfl)) (by unfold Func.isWrapper; first | (rw [if_pos (by decide +kernel)]; kernel_rfl) | (rw [if_neg (by decide +kernel)]; exact ⟨rfl, rfl⟩))
    (fun os started H enc _ => lifted os started H enc)

/-- THE STATEMENT: the tied card. -/
theorem card_holds : Rows.LexerStableCardSaid :=
  Claim7.holds_tied_plain_at .later [] [.data] true Rows.lexerStableCard.stood.harness false
    holds (fun _ h => by cases h) (by kernel_rfl) (fun _ h => by cases h) lexerStable_row_tie rfl ⟨rfl, rfl⟩ (by kernel_rfl) rfl
    (fun f fn hf hfn => by
      obtain rfl : f = 5 := Option.some.inj ((show Tryd.prog.funcNamed Rows.lexerStableRow.func = some 5 by kernel_rfl).symm.trans hf) |>.symm
      obtain rfl : fn = Tryd.f5 := (Option.some.inj (Tryd.func5.symm.trans hfn)).symm
      exact ⟨by kernel_rfl, fun j t ht => by
        rw [Tryd.params5] at ht
        have hm : t ∈ [9, 32] := by have := Array.mem_of_getElem? ht; simp only [List.mem_toArray, List.mem_cons, List.not_mem_nil, or_false] at this ⊢; grind
        have hall : ([9, 32].all fun u => !Tryd.prog.wantsStandIn u) = true := by kernel_rfl
        exact (show Tryd.prog.wantsStandIn t = false by simpa using List.all_eq_true.1 hall t hm)⟩)
    (by kernel_rfl)
#print axioms card_holds
end Go.Proofs.YtfimejmmcfdgaaaDoor.lexerStable
