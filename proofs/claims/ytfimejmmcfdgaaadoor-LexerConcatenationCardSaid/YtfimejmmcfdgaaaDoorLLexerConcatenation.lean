/- The concatenation of two inputs with a blank in between lexes to the tokens of the first followed by the shifted tokens of the second, unless the first ends inside a comment; an error of the first input is preserved (at most 2000 bytes each).
Conditions: none on the arguments; the table of classes lies as the program's text lays it (the card's tie). -/
import Derived.Test.YtfimejmmcfdgaaaDoorLxM
import Derived.Test.YtfimejmmcfdgaaaDoorLxFr
import Derived.Test.YtfimejmmcfdgaaaDoorTie
import Derived.Test.YtfimejmmcfdgaaaDoorCards
import Derived.SevenTiedAt
namespace Go.Proofs.YtfimejmmcfdgaaaDoor.lexerConcatenation
open Go.ChangeShapes Go.WideShapes Go.ChangeAt Go.RowKit
set_option linter.unusedVariables false
set_option linter.unusedSimpArgs false
set_option maxRecDepth 100000
theorem lex_some (s : ByteArray) (w : World) (hTab : Tab w) (hs : s.size ≤ 20000) :
    Calls Tryd.prog 12 #[.string s] w fun e w' => (∃ ao n cap x y, e = .returned (.tuple #[.slice ao n cap, .int .i64 x, .int .i64 y])) ∧ Below w.heap.size w w' := by
  obtain ⟨ts, o, h⟩ := lexes_ex 0 (bl s)
  refine (lex_is s ts o w hTab hs (Lib.hid h)).mono ?_
  rintro e w' ⟨hR, hb⟩
  cases o with
  | none =>
    obtain ⟨ao, cap, rfl, _⟩ := hR
    exact ⟨⟨_, _, _, _, _, rfl⟩, hb⟩
  | some p =>
    cases hR
    exact ⟨⟨_, _, _, _, _, rfl⟩, hb⟩
theorem trow_take {w : World} {ao : Option Addr} {l : List Tok} (h : TRow w ao l) (k : Nat) : TRow w ao (l.take k) := fun i hi => by
  rw [List.length_take] at hi
  obtain ⟨b, o, e, c1, c2, c3⟩ := h i (by omega)
  have g : (l.take k).getD i tok0 = l.getD i tok0 := by
    rw [List.getD_eq_getElem?_getD, List.getD_eq_getElem?_getD, List.getElem?_take_of_lt (by omega)]
  exact ⟨b, o, e, by rw [g]; exact c1, by rw [g]; exact c2, by rw [g]; exact c3⟩
theorem bl_cat (a b : ByteArray) : bl (a ++ ⟨#[32]⟩ ++ b) = bl a ++ 32 :: bl b := by
  unfold bl
  simp
set_option maxHeartbeats 8000000 in
set_option maxRecDepth 1000000 in
theorem walk (s : ByteArray) (hs : s.size ≤ maxLen) (s' : ByteArray) (hs' : s'.size ≤ maxLen) (w : World) (hTab : Tab w) :
    Calls Tryd.prog 6 #[.string s, .string s'] w fun e w' => e = .returned (.bool true) ∧ Below w.heap.size w w' := by
  have TB : Hid (∀ v, Below w.heap.size w v → Tab v) := Lib.hid fun v h => hTab.below h
  clear hTab
  have FC := fun w => few_is s w hs
  have FD := fun w => few_is s' w hs'
  have fz := fewB_size s
  have fz' := fewB_size s'
  generalize fewB s = t at *
  generalize fewB s' = u at *
  clear hs hs'
  obtain ⟨ts, o, h⟩ := lexes_ex 0 (bl t)
  have tl := toks_le h
  rw [bl_len] at tl
  have HL := Lib.hid h
  obtain ⟨us, o', h'⟩ := lexes_ex 0 (bl u)
  have ul := toks_le h'
  rw [bl_len] at ul
  have HM := Lib.hid h'
  clear h h'
  have HC := Lib.hid (bl_cat t u)
  have cz : (t ++ ⟨#[32]⟩ ++ u).size = t.size + 1 + u.size := by rw [← bl_len, HC.out]; simp [bl_len]; omega
  obtain ⟨c, hc⟩ : ∃ c, t ++ ⟨#[32]⟩ ++ u = c := ⟨_, rfl⟩
  rw [hc] at HC cz
  have CU := fun wv hwv => lex_some u wv (TB.out wv hwv) (by omega)
  obtain ⟨d, hd⟩ : ∃ d, t ++ ⟨#[32]⟩ = d := ⟨_, rfl⟩
  have dz : d.size = t.size + 1 := by rw [← hd, ByteArray.size_append]; rfl
  have ad1 : ∀ w : World, (Op.stringOp .add t ⟨#[32]⟩).run Tryd.prog w = .ok (.string d) w := fun w => by rw [← hd]; exact run_string_add_sum _ _ _ (by show t.size + 1 ≤ _; omega)
  have ad2 : ∀ w : World, (Op.stringOp .add d u).run Tryd.prog w = .ok (.string c) w := fun w => by rw [← hc, hd]; exact run_string_add_sum _ _ _ (by omega)
  clear hc hd dz
  cases o with
  | some p =>
    have C1 := fun wv hwv => lex_err t ts p wv (TB.out wv hwv) (by omega) HL
    have C3 := fun wv hwv => lex_err c ts p wv (TB.out wv hwv) (by omega) (Lib.hid (by rw [HC.out]; exact lexes_app_err HL.out (by simp) (fun d hd => by simp at hd; subst hd; decide)))
    clear cz
    go_enter Tryd.func6, Tryd.ntmps6
    go_wp2_with (first | (go_at_call 10; refine (head10_is _ (TB.out _ (Below.refl _ _))).mono ?_; rintro e' W1 ⟨rfl, hb⟩; have B1 := Lib.hid hb; clear hb) | (go_at_call 11; first | (with_reducible refine (FC _).mono ?_; rintro e' w' ⟨rfl, rfl⟩) | (with_reducible refine (FD _).mono ?_; rintro e' w' ⟨rfl, rfl⟩)) | (go_at_call 12; with_reducible refine (C1 _ B1.out).mono ?_; rintro e' W2 ⟨rfl, hb⟩; have B2 := Lib.hid (belT B1.out hb); clear hb) | (go_at_call 12; with_reducible refine (CU _ B2.out).mono ?_; rintro e' W3 ⟨⟨uo, un, uc, ux, uy, rfl⟩, hb⟩; have B3 := Lib.hid (belT B2.out hb); clear hb) | (go_at_call 12; with_reducible refine (C3 _ B3.out).mono ?_; rintro e' W4 ⟨rfl, hb⟩; have B4 := Lib.hid (belT B3.out hb); clear hb))
    go_ret
    exact ⟨rfl, B4.out⟩
  | none =>
    have C1 := fun wv hwv => lex_ok t ts wv (TB.out wv hwv) (by omega) HL
    obtain ⟨nt, hnt⟩ : ∃ nt, noteL false (bl t) = nt := ⟨_, rfl⟩
    have NC := fun w => noted_is t w (by omega)
    rw [hnt] at NC
    cases nt with
    | true =>
      have CC := fun wv hwv => lex_some c wv (TB.out wv hwv) (by omega)
      clear hnt cz
      go_enter Tryd.func6, Tryd.ntmps6
      go_wp2_with (first | (go_at_call 10; refine (head10_is _ (TB.out _ (Below.refl _ _))).mono ?_; rintro e' W1 ⟨rfl, hb⟩; have B1 := Lib.hid hb; clear hb) | (go_at_call 11; first | (with_reducible refine (FC _).mono ?_; rintro e' w' ⟨rfl, rfl⟩) | (with_reducible refine (FD _).mono ?_; rintro e' w' ⟨rfl, rfl⟩)) | (go_at_call 12; with_reducible refine (C1 _ B1.out).mono ?_; rintro e' W2 ⟨⟨ao, ca, rfl, hc1, hc2, hr⟩, hb⟩; have R2 := Lib.hid hr; have KR2 := Lib.hid (And.intro hc1 hc2); have B2 := Lib.hid (belT B1.out hb); clear hr hb hc1 hc2) | (go_at_call 12; with_reducible refine (CU _ B2.out).mono ?_; rintro e' W3 ⟨⟨uo, un, uc, ux, uy, rfl⟩, hb⟩; have B3 := Lib.hid (belT B2.out hb); clear hb) | (go_at_call 12; with_reducible refine (CC _ B3.out).mono ?_; rintro e' W4 ⟨⟨vo, vn, vc, vx, vy, rfl⟩, hb⟩; have B4 := Lib.hid (belT B3.out hb); clear hb) | (go_at_call 16; refine (NC _).mono ?_; rintro e' w' ⟨rfl, rfl⟩))
      go_ret
      exact ⟨rfl, B4.out⟩
    | false =>
      have L3 : Hid (Lexes 0 (bl c) (ts ++ us.map (shT (t.size + 1))) (o'.map (· + (t.size + 1)))) := Lib.hid (by
        rw [HC.out]
        refine lexes_app HL.out rfl hnt (fun d hd => by simp at hd; subst hd; decide) ?_
        refine lexes_pre (g := [32]) (x := bl u) (by decide) rfl ?_
        have h := lexes_shift HM.out (t.size + 1)
        rwa [show 0 + (t.size + 1) = 0 + (bl t).length + [(32 : UInt8)].length by rw [bl_len]; simp] at h)
      clear hnt
      cases o' with
      | some p =>
        have C2 := fun wv hwv => lex_err u us p wv (TB.out wv hwv) (by omega) HM
        have C3 := fun wv hwv => lex_err c (ts ++ us.map (shT (t.size + 1))) (p + (t.size + 1)) wv (TB.out wv hwv) (by omega) L3
        obtain ⟨y, hy⟩ : ∃ y, p + (t.size + 1) = y := ⟨_, rfl⟩
        rw [hy] at C3
        have hy' : (t.size : Int) + 1 + (p : Int) = (y : Int) := by omega
        have hyb : y ≤ 5000 := by have := (lexes_cut HM.out rfl).2.1; rw [bl_len] at this; omega
        clear hy cz
        go_enter Tryd.func6, Tryd.ntmps6
        go_wp2_with (first | (go_at_call 10; refine (head10_is _ (TB.out _ (Below.refl _ _))).mono ?_; rintro e' W1 ⟨rfl, hb⟩; have B1 := Lib.hid hb; clear hb) | (go_at_call 11; first | (with_reducible refine (FC _).mono ?_; rintro e' w' ⟨rfl, rfl⟩) | (with_reducible refine (FD _).mono ?_; rintro e' w' ⟨rfl, rfl⟩)) | (go_at_call 12; with_reducible refine (C1 _ B1.out).mono ?_; rintro e' W2 ⟨⟨ao, ca, rfl, hc1, hc2, hr⟩, hb⟩; have R2 := Lib.hid hr; have KR2 := Lib.hid (And.intro hc1 hc2); have B2 := Lib.hid (belT B1.out hb); clear hr hb hc1 hc2) | (go_at_call 12; with_reducible refine (C2 _ B2.out).mono ?_; rintro e' W3 ⟨rfl, hb⟩; have B3 := Lib.hid (belT B2.out hb); clear hb) | (go_at_call 12; with_reducible refine (C3 _ B3.out).mono ?_; rintro e' W4 ⟨rfl, hb⟩; have B4 := Lib.hid (belT B3.out hb); clear hb) | (go_at_call 16; refine (NC _).mono ?_; rintro e' w' ⟨rfl, rfl⟩))
        go_ret
        exact ⟨rfl, B4.out⟩
      | none =>
        have C2 := fun wv hwv => lex_ok u us wv (TB.out wv hwv) (by omega) HM
        obtain ⟨cs, hcs⟩ : ∃ cs, ts ++ us.map (shT (t.size + 1)) = cs := ⟨_, rfl⟩
        have HCS := Lib.hid hcs
        rw [hcs] at L3
        have C3 := fun wv hwv => lex_ok c cs wv (TB.out wv hwv) (by omega) L3
        have csl : cs.length = ts.length + us.length := by rw [← hcs, List.length_append, List.length_map]
        clear hcs
        obtain ⟨n, hn⟩ : ∃ n, ts.length = n := ⟨_, rfl⟩
        obtain ⟨m, hm⟩ : ∃ m, us.length = m := ⟨_, rfl⟩
        obtain ⟨N, hN⟩ : ∃ N, cs.length = N := ⟨_, rfl⟩
        rw [hn] at C1 tl csl
        rw [hm] at C2 ul csl
        rw [hN] at C3 csl
        have HN := Lib.hid hn
        have HMM := Lib.hid hm
        have HNN := Lib.hid hN
        have nm : (n : Int) + (m : Int) = (N : Int) := by omega
        have NB : N ≤ 5000 := by omega
        have CSL := Lib.hid csl
        clear hn hm hN csl cz
        go_enter Tryd.func6, Tryd.ntmps6
        go_wp2_with (first | (go_at_call 10; refine (head10_is _ (TB.out _ (Below.refl _ _))).mono ?_; rintro e' W1 ⟨rfl, hb⟩; have B1 := Lib.hid hb; clear hb) | (go_at_call 11; first | (with_reducible refine (FC _).mono ?_; rintro e' w' ⟨rfl, rfl⟩) | (with_reducible refine (FD _).mono ?_; rintro e' w' ⟨rfl, rfl⟩)) | (go_at_call 12; with_reducible refine (C1 _ B1.out).mono ?_; rintro e' W2 ⟨⟨ao, ca, rfl, hc1, hc2, hr⟩, hb⟩; have R2 := Lib.hid hr; have KR2 := Lib.hid (And.intro hc1 hc2); have B2 := Lib.hid (belT B1.out hb); clear hr hb hc1 hc2) | (go_at_call 12; with_reducible refine (C2 _ B2.out).mono ?_; rintro e' W3 ⟨⟨bo, cb, rfl, hc1, hc2, hr⟩, hb⟩; have R3 := Lib.hid hr; have KR3 := Lib.hid (And.intro hc1 hc2); have B3 := Lib.hid (belT B2.out hb); have R23 := Lib.hid (trow_below R2.out hb); clear hr hb hc1 hc2) | (go_at_call 12; with_reducible refine (C3 _ B3.out).mono ?_; rintro e' W4 ⟨⟨co, cc, rfl, hc1, hc2, hr⟩, hb⟩; have R4 := Lib.hid hr; have KR4 := Lib.hid (And.intro hc1 hc2); have B4 := Lib.hid (belT B3.out hb); have R24 := Lib.hid (trow_below R23.out hb); have R34 := Lib.hid (trow_below R3.out hb); clear hr hb hc1 hc2) | (go_at_call 16; refine (NC _).mono ?_; rintro e' w' ⟨rfl, rfl⟩))
        go_loopw [17] (fun i wr => ∃ j : Nat, j ≤ m ∧ i = .int .i64 j ∧ Hid (Below W4.heap.size W4 wr)) (fun i _ => m - (intOf i).toNat)
        case atStart => exact ⟨0, Nat.zero_le _, rfl, Lib.hid (Below.refl _ _)⟩
        case round =>
          obtain ⟨j, hj, rfl, HB⟩ := hrel
          have RL := Lib.hid (trow_below R24.out HB.out)
          have RM := Lib.hid (trow_below R34.out HB.out)
          have RC := Lib.hid (trow_below R4.out HB.out)
          have BB := Lib.hid (belT B4.out HB.out)
          by_cases hlt : j < m
          rotate_left
          · have hlt' : ¬ (j : Int) < m := by omega
            have RT := Lib.hid (trow_take RC.out n)
            have ET : Hid (cs.take n = ts) := Lib.hid (by rw [← HCS.out, ← HN.out, List.take_left])
            rw [ET.out] at RT
            have ncc : n ≤ cc := by have := KR4.out.1; omega
            have ccm : cc ≤ 9223372036854775807 := KR4.out.2
            have LT : Hid (ts.length ≤ 1000000) := Lib.hid (by rw [HN.out]; omega)
            go_wp2_with (go_at_call 14; refine (sameT_is co ao n n cc ca ts ts true _ HN.out HN.out (Lib.hid (decide_eq_true rfl)) LT.out LT.out RT.out RL.out).mono ?_; rintro e' W6 ⟨rfl, hb⟩; have B6 := Lib.hid (belT BB.out hb); clear hb)
            go_ret
            exact ⟨rfl, B6.out⟩
          have hjt : j < us.length := by rw [HMM.out]; exact hlt
          have hJt : n + j < cs.length := by rw [HNN.out]; omega
          obtain ⟨b, ob, rfl, c1, c2, c3⟩ := RM.out j hjt
          obtain ⟨b2, ob2, rfl, d1, d2, d3⟩ := RC.out (n + j) hJt
          have EJ : cs.getD (n + j) tok0 = shT (t.size + 1) (us.getD j tok0) := by
            rw [← HCS.out, ← HN.out, List.getD_eq_getElem?_getD, List.getElem?_append_right (by omega), Nat.add_sub_cancel_left, List.getElem?_map, List.getD_eq_getElem?_getD, List.getElem?_eq_getElem hjt]
            rfl
          rw [EJ] at d1 d2 d3
          have hab : (us.getD j tok0).2.2 ≤ 2000 := by have h := (lexes_trunc HM.out j hjt).2.1; unfold endT at h; rw [bl_len] at h; omega
          generalize us.getD j tok0 = el at *
          obtain ⟨k, x, a⟩ := el
          simp only [shT] at c1 c2 c3 d1 d2 d3 hab
          obtain ⟨v, hv⟩ : ∃ v, bsA x = v := ⟨_, rfl⟩
          have HV := Lib.hid hv
          rw [hv] at c2 d2
          obtain ⟨y, hy⟩ : ∃ y, a + (t.size + 1) = y := ⟨_, rfl⟩
          rw [hy] at d3
          have E := fun w => neqTok k k y y x x true (Lib.hid (decide_eq_true rfl)) w
          rw [hv] at E
          obtain ⟨J, hJ⟩ : ∃ J, n + j = J := ⟨_, rfl⟩
          rw [hJ] at d1 d2 d3
          have EY := Lib.hid hy
          have EJJ := Lib.hid hJ
          have hJN : (J : Int) < N := by rw [HNN.out] at hJt; omega
          have nj : (n : Int) + (j : Int) = (J : Int) := by omega
          have yb : y ≤ 5000 := by omega
          have ya : (a : Int) + (t.size : Int) + 1 = (y : Int) := by omega
          have hji : (j : Int) < m := by omega
          clear hv hy hJ EJ hjt hJt
          go_upto_region 20 with fail
          have HX := Lib.hid (blk_new wr (.cells #[.int .i64 k, .string v, .int .i64 y] 31) _ rfl)
          have B5 := Lib.hid (belA HB.out (.cells #[.int .i64 k, .string v, .int .i64 y] 31))
          have e1 : (wr.alloc (.cells #[.int .i64 k, .string v, .int .i64 y] 31)).cell? ⟨b2, ob2 + J * 3, none⟩ = some (.int .i64 k) := (World.cell?_alloc_lt wr _ _ (World.block_lt_of_cell? wr _ d1)).trans d1
          have e2 : (wr.alloc (.cells #[.int .i64 k, .string v, .int .i64 y] 31)).cell? ⟨b2, ob2 + J * 3 + 1, none⟩ = some (.string v) := (World.cell?_alloc_lt wr _ _ (World.block_lt_of_cell? wr _ d2)).trans d2
          have e3 : (wr.alloc (.cells #[.int .i64 k, .string v, .int .i64 y] 31)).cell? ⟨b2, ob2 + J * 3 + 2, none⟩ = some (.int .i64 y) := (World.cell?_alloc_lt wr _ _ (World.block_lt_of_cell? wr _ d3)).trans d3
          obtain ⟨bx, hbx⟩ : ∃ x, wr.heap.size = x := ⟨_, rfl⟩
          rw [hbx] at HX ⊢
          clear hbx c1 c2 c3 d1 d2 d3 ya
          generalize wr.alloc (.cells #[.int .i64 k, .string v, .int .i64 y] 31) = Wx at *
          obtain ⟨sp, hsp⟩ : ∃ sp : ToldS, sp = [none, none, none, none, none, none, none, none, none, none, none, none, none, none, none, none, none, none, none, none, none, none, none, none, none, none, none, none, none, none, none, none, none, none, none, none, none, none, none, none, none, none, none, none, none, none, none, none, none, none, none, none, none, none, none, none, none, none, none, none, none, none, none, none, none, none, none, none, none, none, none, none, none, none, none, none, none, none, none, none, none, none, none, none, none, none, none, none, none, none, none, none, none, none, none, none, none, none, none, none, none, none, none, none, none, none, none, none, none, none, none, none, none, none, none, none, some (eqS (.slice (some ⟨b2, ob2, none⟩) N cc)), some (eqS (.slice ao n ca)), some (eqS (.int .i64 n)), some (eqS (.int .i64 j)), some (eqS (.int .i64 J)), some (eqS (.pointer (some ⟨b2, ob2 + J * 3, none⟩))), some (eqS (.agg #[.int .i64 k, .string v, .int .i64 y])), some (eqS (.agg #[.int .i64 k, .string v, .int .i64 y])), some (eqS (.bool false))] := ⟨_, rfl⟩
          have s116 : sp.getD 116 none = some (eqS (.slice (some ⟨b2, ob2, none⟩) N cc)) := by rw [hsp]; rfl
          have s117 : sp.getD 117 none = some (eqS (.slice ao n ca)) := by rw [hsp]; rfl
          have s118 : sp.getD 118 none = some (eqS (.int .i64 n)) := by rw [hsp]; rfl
          have s119 : sp.getD 119 none = some (eqS (.int .i64 j)) := by rw [hsp]; rfl
          have s120 : sp.getD 120 none = some (eqS (.int .i64 J)) := by rw [hsp]; rfl
          have s121 : sp.getD 121 none = some (eqS (.pointer (some ⟨b2, ob2 + J * 3, none⟩))) := by rw [hsp]; rfl
          have s122 : sp.getD 122 none = some (eqS (.agg #[.int .i64 k, .string v, .int .i64 y])) := by rw [hsp]; rfl
          have s123 : sp.getD 123 none = some (eqS (.agg #[.int .i64 k, .string v, .int .i64 y])) := by rw [hsp]; rfl
          have s124 : sp.getD 124 none = some (eqS (.bool false)) := by rw [hsp]; rfl
          clear hsp
          refine (wpIn_wide (n := 0)).1 (region_allR (RtS sp) (rtS_keep sp) rfl rfl rfl (by kernel_rfl) (by kernel_rfl) (by kernel_rfl) ?_ ?_)
          · intro Q'
            refine obsR_cons ?_ ?_
            · intro T wx K hB hF hD hK
              have g14 : T[14]? = some (.slice (some ⟨b2, ob2, none⟩) N cc) := hF 14 (freeM_of (by kernel_rfl))
              refine ob_yes (wanted_none rfl) ?_
              clear hF hD
              go_simp
              exact hK _ _ (Below.refl _ _) (rt_eqS s116)
            refine obsR_cons ?_ ?_
            · intro T wx K hB hF hD hK
              have g8 : T[8]? = some (.slice ao n ca) := hF 8 (freeM_of (by kernel_rfl))
              refine ob_yes (wanted_none rfl) ?_
              clear hF hD
              go_simp
              exact hK _ _ (Below.refl _ _) (rt_eqS s117)
            refine obsR_cons ?_ ?_
            · intro T wx K hB hF hD hK
              have g117 := get_eqS (hD 1 117 (by simp [Region.binds]) (by kernel_rfl)) s117
              refine ob_yes (wanted_none rfl) ?_
              clear hF hD
              go_simp
              exact hK _ _ (Below.refl _ _) (rt_eqS s118)
            refine obsR_cons ?_ ?_
            · intro T wx K hB hF hD hK
              have g17 : T[17]? = some (.int .i64 j) := hF 17 (freeM_of (by kernel_rfl))
              refine ob_yes (wanted_none rfl) ?_
              clear hF hD
              go_simp
              exact hK _ _ (Below.refl _ _) (rt_eqS s119)
            refine obsR_cons ?_ ?_
            · intro T wx K hB hF hD hK
              have g118 := get_eqS (hD 2 118 (by simp [Region.binds]) (by kernel_rfl)) s118
              have g119 := get_eqS (hD 3 119 (by simp [Region.binds]) (by kernel_rfl)) s119
              refine ob_yes (wanted_none rfl) ?_
              clear hF hD
              go_simp
              first | exact hK _ _ (Below.refl _ _) (rt_eqS s120) | exact hK _ _ (Below.refl _ _) (rt_eqS' s120 (congrArg (Value.int .i64) (wrap_k _ (by omega))))
            refine obsR_cons ?_ ?_
            · intro T wx K hB hF hD hK
              have g116 := get_eqS (hD 0 116 (by simp [Region.binds]) (by kernel_rfl)) s116
              have g120 := get_eqS (hD 4 120 (by simp [Region.binds]) (by kernel_rfl)) s120
              refine ob_yes (wanted_none rfl) ?_
              clear hF hD
              go_simp
              exact hK _ _ (Below.refl _ _) (rt_eqS s121)
            refine obsR_cons ?_ ?_
            · intro T wx K hB hF hD hK
              have g121 := get_eqS (hD 5 121 (by simp [Region.binds]) (by kernel_rfl)) s121
              refine ob_yes (wanted_none rfl) ?_
              clear hF hD
              have je1 := (hB.cell (World.block_lt_of_cell? _ _ e1)).trans e1
              have je2 := (hB.cell (World.block_lt_of_cell? _ _ e2)).trans e2
              have je3 := (hB.cell (World.block_lt_of_cell? _ _ e3)).trans e3
              go_simp
              exact hK _ _ (Below.refl _ _) (rt_eqS s122)
            refine obsR_cons ?_ ?_
            · intro T wx K hB hF hD hK
              have g18 : T[18]? = some (.pointer (some ⟨bx, 0, none⟩)) := hF 18 (freeM_of (by kernel_rfl))
              refine ob_yes (wanted_none rfl) ?_
              clear hF hD
              have x0 := blk_cell (blk_call HX.out hB) 0 _ rfl
              have x1 := blk_cell (blk_call HX.out hB) 1 _ rfl
              have x2 := blk_cell (blk_call HX.out hB) 2 _ rfl
              go_simp
              exact hK _ _ (Below.refl _ _) (rt_eqS s123)
            refine obsR_cons ?_ ?_
            · intro T wx K hB hF hD hK
              have g122 := get_eqS (hD 6 122 (by simp [Region.binds]) (by kernel_rfl)) s122
              have g123 := get_eqS (hD 7 123 (by simp [Region.binds]) (by kernel_rfl)) s123
              refine ob_yes (wanted_none rfl) ?_
              clear hF hD
              go_simp
              exact hK _ _ (Below.refl _ _) (rt_eqS s124)
            exact obsR_nil
          · intro Ty Wy hb8 hF hs hD
            have g116 := get_eqS (hD 0 116 (by decide) (by kernel_rfl)) s116
            have g117 := get_eqS (hD 1 117 (by decide) (by kernel_rfl)) s117
            have g118 := get_eqS (hD 2 118 (by decide) (by kernel_rfl)) s118
            have g119 := get_eqS (hD 3 119 (by decide) (by kernel_rfl)) s119
            have g120 := get_eqS (hD 4 120 (by decide) (by kernel_rfl)) s120
            have g121 := get_eqS (hD 5 121 (by decide) (by kernel_rfl)) s121
            have g122 := get_eqS (hD 6 122 (by decide) (by kernel_rfl)) s122
            have g123 := get_eqS (hD 7 123 (by decide) (by kernel_rfl)) s123
            have g124 := get_eqS (hD 8 124 (by decide) (by kernel_rfl)) s124
            have hT9 := conc [(116, .slice (some ⟨b2, ob2, none⟩) N cc), (117, .slice ao n ca), (118, .int .i64 n), (119, .int .i64 j), (120, .int .i64 J), (121, .pointer (some ⟨b2, ob2 + J * 3, none⟩)), (122, .agg #[.int .i64 k, .string v, .int .i64 y]), (123, .agg #[.int .i64 k, .string v, .int .i64 y]), (124, .bool false)] hs hF (by simp only [List.forall_mem_cons]; exact ⟨g116, g117, g118, g119, g120, g121, g122, g123, g124, fun p hp => absurd hp List.not_mem_nil⟩) (by kernel_rfl)
            simp only [List.foldl, List.setIfInBounds_toArray, List.set_cons_succ, List.set_cons_zero] at hT9
            subst hT9
            clear hF hD hs g116 g117 g118 g119 g120 g121 g122 g123 g124 s116 s117 s118 s119 s120 s121 s122 s123 s124
            have B6 := Lib.hid (belT B5.out hb8)
            clear hb8 B5 e1 e2 e3 E
            go_wp2_with fail
            exact ⟨⟨j + 1, by omega, by go_num, B6⟩, by simp [intOf]; omega⟩

set_option maxRecDepth 100000 in
theorem lifted (os : Os) (started : os.Started) (H : Type) (enc : TypeId × Value → H) :
    ReturnsInHanded {} Tryd.checked os 6 .any (fun w args => (Rows.lexerConcatenationSpec.pre enc Tryd.prog Tryd.f6 [] false w args ∧ laidMetH Tryd.prog Rows.lexerConcatenationRow.laid w) ∧ sizedMet enc Tryd.prog Tryd.f6 (OpenSpec.ofChange Rows.lexerConcatenationSpec) false w args)
      (Rows.lexerConcatenationSpec.post enc Tryd.prog Tryd.f6 false true false false) := by
  refine returnsInHanded_of_change_and (C := Tryd.checked) (X := fun w _ => laidMetH Tryd.prog Rows.lexerConcatenationRow.laid w) (fun _ _ _ hh h => h.of_heap hh) own started (by kernel_rfl) Tryd.func6
    (ChangeSpec.witness_shaped (enc := enc) (C := Tryd.checked) (os := os) (X := fun w _ => laidMetH Tryd.prog Rows.lexerConcatenationRow.laid w) false (World.doorLaid Tryd.prog 600 os) #[.string ⟨#[]⟩, .string ⟨#[]⟩] 8 rfl (World.shaped_of_RefB (by kernel_rfl) (by kernel_rfl)) (by kernel_rfl) (by kernel_rfl) (by kernel_rfl) (show laidMetH Tryd.prog [(qn, Rows.laid_ambidexter_lexer_classes)] _ from door_met os _)) ?_
  intro W base args ds gs before hval0 hW _ _ hL _
  have hval : ∀ (j : Nat) t v, Tryd.f6.params[j]? = some t → args[j]? = some v → Value.okWide Tryd.prog W .any base t v := hval0
  have hW' := hW
  obtain ⟨p, q, hA0, hV, rfl, hfz, hnd⟩ := hW
  have hA : DataW.TrodAll enc Tryd.prog W 0 (fun _ => true) true Tryd.f6.params.toList args.toList ds p := hA0
  rw [Tryd.params6] at hA hval
  obtain ⟨v0, vs0, d0, ds0, p0, q0, hargs, rfl, rfl, h0, r0⟩ := trodAll_cons hA
  obtain ⟨v1, vs1, d1, ds1, p1, q1, rfl, rfl, rfl, h1, r1⟩ := trodAll_cons r0
  obtain ⟨rfl, rfl, rfl⟩ := trodAll_nil r1
  obtain rfl : args = #[v0, v1] := by cases args; simp_all
  obtain ⟨rfl, rfl⟩ := trodVars_none hV
  obtain ⟨a0, rfl, rfl, rfl, w0⟩ := Go.ChangeMaps.open_string Tryd.underlying9 (hval 0 9 v0 rfl rfl) h0
  obtain ⟨a1, rfl, rfl, rfl, w1⟩ := Go.ChangeMaps.open_string Tryd.underlying9 (hval 1 9 v1 rfl rfl) h1
  clear hA0 hval0
  simp only [List.append_nil] at hW'
  refine (walk (w := W) (hTab := tab_of_laid hL) a0 w0 a1 w1).mono fun e W' ⟨he, bel⟩ => ?_
  subst he
  exact ⟨_, rfl, _, _, _, [], _, [], hW', trodAll_mk1 (shut_bool Tryd.underlying4 _), (trodAll_cons_mk (Go.ChangeMaps.shut_string Tryd.underlying9 w0) (trodAll_cons_mk (Go.ChangeMaps.shut_string Tryd.underlying9 w1) trodAll_mk0)), rfl, bel.frame _, fun h => by cases h⟩

theorem holds : Rows.LexerConcatenationSaid :=
  OpenClaim.holds_of_wide 6 Tryd.f6 rfl rfl rfl rfl rfl rfl rfl ⟨rfl, rfl, rfl, rfl, rfl⟩ rfl rfl rfl rfl rfl (by kernel_rfl) Tryd.func6 (by kernel_rfl)
    (of_decide_eq_true (by kernel_rfl)) (by unfold Func.isWrapper; first | (rw [if_pos (by decide +kernel)]; kernel_rfl) | (rw [if_neg (by decide +kernel)]; exact ⟨rfl, rfl⟩))
    (fun os started H enc _ => lifted os started H enc)

/-- THE STATEMENT: the tied card. -/
theorem card_holds : Rows.LexerConcatenationCardSaid :=
  Claim7.holds_tied_plain_at .later [] [.data] true Rows.lexerConcatenationCard.stood.harness false
    holds (fun _ h => by cases h) (by kernel_rfl) (fun _ h => by cases h) lexerConcatenation_row_tie rfl ⟨rfl, rfl⟩ (by kernel_rfl) rfl
    (fun f fn hf hfn => by
      obtain rfl : f = 6 := Option.some.inj ((show Tryd.prog.funcNamed Rows.lexerConcatenationRow.func = some 6 by kernel_rfl).symm.trans hf) |>.symm
      obtain rfl : fn = Tryd.f6 := (Option.some.inj (Tryd.func6.symm.trans hfn)).symm
      exact ⟨by kernel_rfl, fun j t ht => by
        rw [Tryd.params6] at ht
        have hm : t ∈ [9] := by have := Array.mem_of_getElem? ht; simp only [List.mem_toArray, List.mem_cons, List.not_mem_nil, or_false] at this ⊢; grind
        have hall : ([9].all fun u => !Tryd.prog.wantsStandIn u) = true := by kernel_rfl
        exact (show Tryd.prog.wantsStandIn t = false by simpa using List.all_eq_true.1 hall t hm)⟩)
    (by kernel_rfl)
#print axioms card_holds
end Go.Proofs.YtfimejmmcfdgaaaDoor.lexerConcatenation
