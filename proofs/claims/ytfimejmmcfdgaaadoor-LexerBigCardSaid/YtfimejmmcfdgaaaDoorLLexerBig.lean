/- Every input of more than 20000 bytes is rejected with ErrBig, and an input of exactly 20000 bytes is not (line feeds appended to arbitrary inputs of at most 2000 bytes).
Conditions: none on the arguments; the table of classes lies as the program's text lays it (the card's tie). -/
import Derived.Test.YtfimejmmcfdgaaaDoorLxM
import Derived.Test.YtfimejmmcfdgaaaDoorLxFr
import Derived.Laws.IdiomStrings
import Derived.Laws.IdiomCopy
import Derived.Lib.ConvBytes
import Derived.Lib.AtoiErrMem
import Derived.Test.YtfimejmmcfdgaaaDoorTie
import Derived.Test.YtfimejmmcfdgaaaDoorCards
import Derived.SevenTiedAt
namespace Go.Proofs.YtfimejmmcfdgaaaDoor.lexerBig
open Go.ChangeShapes Go.WideShapes Go.ChangeAt Go.RowKit
set_option linter.unusedVariables false
set_option linter.unusedSimpArgs false
set_option maxRecDepth 100000
def bcells (l : Bs) : List Value := l.map fun b => .int .u8 (b.toNat : Int)
/-- A row of bytes of the call's own; a mark may lie behind its end. -/
def BRow (w : World) (base : Nat) (v : Value) (n : Nat) (l : Bs) : Prop := l.length = n ∧ ∃ g cap cur fz, v = .slice (some ⟨g, 0, none⟩) n cap ∧ base ≤ g ∧ w.heap[g]? = some (.cells cur 5 fz) ∧ (fz.2 ≤ 0 ∨ cur.size ≤ fz.1) ∧ n ≤ cap ∧ cap ≤ maxLen ∧ cur.size = cap ∧ cur.toList.take n = bcells l ∧ ∀ (j : Nat) (u : Value), cur[j]? = some u → ∃ c, u = Value.int .u8 c
theorem brow_cell {w : World} {base g n m cap : Nat} {l : Bs} (h : BRow w base (.slice (some ⟨g, 0, none⟩) n cap) m l) : n = m ∧ l.length = n ∧ ∀ j (hj : j < l.length), w.cell? ((⟨g, 0, none⟩ : Addr).add j) = some (.int .u8 (l[j].toNat : Int)) := by
  obtain ⟨hl, g', cap', cur, fz, e, hb, hg, hf, hc, hm, hs, ht, _⟩ := h
  cases e
  refine ⟨rfl, hl, fun j hj => ?_⟩
  have hadd : (⟨g, 0, none⟩ : Addr).add j = ⟨g, j, none⟩ := by unfold Addr.add; split <;> simp_all
  rw [hadd]
  have h1 : cur.toList[j]? = some (.int .u8 (l[j].toNat : Int)) := by
    have h2 := congrArg (fun x => x[j]?) ht
    simp only [List.getElem?_take_of_lt (show j < n by omega), bcells, List.getElem?_map, List.getElem?_eq_getElem hj, Option.map_some] at h2
    exact h2
  simp only [World.cell?, hg]
  simpa using h1
theorem brow_below {w w' : World} {base n : Nat} {v : Value} {l : Bs} (h : BRow w base v n l) (hb : Below w.heap.size w w') : BRow w' base v n l := by
  obtain ⟨hl, g, cap, cur, fz, e, h1, hg, rest⟩ := h
  exact ⟨hl, g, cap, cur, fz, e, h1, (hb.block g (Array.getElem?_eq_some_iff.1 hg).1).trans hg, rest⟩
theorem brow_form {w : World} {base n : Nat} {v : Value} {l : Bs} (h : BRow w base v n l) : ∃ g cap, v = .slice (some ⟨g, 0, none⟩) n cap := by
  obtain ⟨_, g, cap, _, _, e, _⟩ := h
  exact ⟨g, cap, e⟩
theorem brow_base {w : World} {base n : Nat} {v : Value} {l : Bs} (h : BRow w base v n l) : ∀ g, v.ownBlock = some g → base ≤ g := by
  obtain ⟨_, g, cap, _, _, rfl, hb, _⟩ := h
  intro g' e
  simp [Value.ownBlock] at e
  omega
/-- Tokens stay while a row of bytes grows. -/
theorem trow_kept {w w' : World} {base n : Nat} {v : Value} {l : Bs} {ao : Option Addr} {ts : List Tok} (h : BRow w base v n l) (hg : w.grownBy w' v.ownBlock) (ht : TRow w ao ts) : TRow w' ao ts := fun i hi => by
  obtain ⟨b, o, e, c1, c2, c3⟩ := ht i hi
  obtain ⟨_, g, cap, cur, fz, rfl, _, hgg, _, _, _, _, _, hall⟩ := h
  have hne : some b ≠ (Value.slice (some ⟨g, 0, none⟩) n cap).ownBlock := by
    intro e
    simp [Value.ownBlock] at e
    subst e
    simp only [World.cell?, hgg] at c1
    obtain ⟨c, hc⟩ := hall (o + i * 3) _ (by simpa using c1)
    cases hc
  exact ⟨b, o, e, hg.cell c1 hne, hg.cell c2 hne, hg.cell c3 hne⟩
theorem infoU : (Tryd.prog.info? 5).map (fun i => (i.zero, i.size, i.bytes)) = some (some (.int .u8 0), 1, 1) := by kernel_rfl
/-- Appending one byte. -/
theorem brow_append {w : World} {base n : Nat} {v : Value} {l : Bs} (h : BRow w base v n l) (ty : TypeId) (a : Addr) (c : Nat) (x : UInt8) (ha : w.cell? (a.add 0) = some (.int .u8 (x.toNat : Int))) (hn : n ≤ 30000) (hw : base ≤ w.heap.size) :
    ∃ v' w', (Builtin.append_ #[32, 32] ty #[v, .slice (some a) 1 c]).run Tryd.prog w = .ok v' w' ∧ BRow w' base v' (n + 1) (l ++ [x]) ∧ w.grownBy w' v.ownBlock := by
  obtain ⟨i0, hi, hz0, hz1', hz2'⟩ := info_parts infoU
  have hh := h
  obtain ⟨hl, g, cap, cur, fz, rfl, hb, hg, hf, hc, hm, hs, ht, hall⟩ := h
  have hll : (l ++ [x]).length = n + 1 := by simp [hl]
  have hbc : bcells (l ++ [x]) = bcells l ++ [.int .u8 (x.toNat : Int)] := by simp [bcells]
  have hbl : (bcells l).length = n := by simp [bcells, hl]
  have hnews : ∀ j u, [Value.int .u8 (x.toNat : Int)][j]? = some u → w.cell? (a.add j) = some u := by
    intro j u hj
    match j with
    | 0 => simp at hj; subst hj; exact ha
    | j + 1 => simp at hj
  by_cases hroom : n + 1 ≤ cap
  · have hlt : n < cur.size := by omega
    have hcell : w.cell? ⟨g, n, none⟩ = some cur[n] := by simp [World.cell?, hg, hlt]
    have hfro : w.frozen? ⟨g, n, none⟩ = false := by
      obtain ⟨lo, hi'⟩ := fz
      simp only [World.frozen?, hg, Bool.and_eq_false_iff, decide_eq_false_iff_not]
      simp only at hf
      rcases hf with hf | hf
      · right; omega
      · left; omega
    have hst := run_storeCells_cells (P := Tryd.prog) g n [.int .u8 (x.toNat : Int)] 0 w (fun j hj => by
      have : j = 0 := by simpa using hj
      subst this
      simp [hcell]) (fun j hj => by
      have : j = 0 := by simpa using hj
      subst this
      simpa using hfro) (by simp [Value.oneCell'])
    have hfc := run_firstCells_some (P := Tryd.prog) w 1 1 a 1 c [.int .u8 (x.toNat : Int)] rfl hnews
    have hse := setCell_eq_setRow w g n cur _ fz (.int .u8 (x.toNat : Int)) hg
    refine ⟨.slice (some ⟨g, 0, none⟩) (n + 1) cap, w.setRow g (cur.setIfInBounds n (.int .u8 (x.toNat : Int))), ?_, ⟨hll, g, cap, _, fz, rfl, hb, setRow_heap w g cur _ _ fz hg, ?_, by omega, hm, by simpa using hs, ?_, ?_⟩, ⟨rfl, rfl, rfl, by simp, fun k _ hk => setRow_other w g k _ (fun e => hk (by simp [Value.ownBlock, e]))⟩⟩
    · rw [← hse]
      simp [Builtin.append_, run_underlying Tryd.underlying32, sizeOf, typeInfo, hi, hz1', Builtin.lenOf, hroom, hfc, Addr.add_lit, hst, World.setCells]
    · rcases hf with hf | hf
      · exact Or.inl hf
      · exact Or.inr (by simpa using hf)
    · rw [hbc, Array.toList_setIfInBounds, List.take_add_one, List.take_set_of_le (Nat.le_refl _), ht, List.getElem?_set_self (by simpa using hlt)]
      rfl
    · intro j u hj
      rw [Array.getElem?_setIfInBounds] at hj
      split at hj
      · exact ⟨_, (Option.some.inj hj).symm⟩
      · exact hall j u hj
  · have holds : ∀ j u, (bcells l)[j]? = some u → w.cell? ((⟨g, 0, none⟩ : Addr).add j) = some u := by
      intro j u hj
      have hjl : j < l.length := by have := (List.getElem?_eq_some_iff.1 hj).1; simpa [bcells] using this
      rw [(brow_cell hh).2.2 j hjl]
      simpa [bcells, List.getElem?_eq_getElem hjl] using hj
    have mlen : maxLen = 9223372036854775807 := rfl
    have hr := run_append_grow (P := Tryd.prog) w 32 ty 5 i0 (.int .u8 0) Tryd.underlying32 hi hz0 ⟨g, 0, none⟩ n cap (bcells l) (by rw [hz1', hbl]; omega) holds a 1 c [.int .u8 (x.toNat : Int)] (by rw [hz1']; rfl) hnews (by omega) (by omega) (growslice_fits (by omega) (by rw [hz2']; omega))
    have hge := grownCap_ge w (n + 1) cap 5
    have hgm := grownCap_le_maxLen w (n + 1) cap 5 (by omega)
    refine ⟨_, _, hr, ⟨hll, w.heap.size, _, _, (0, 0), rfl, hw, heap_alloc_new w.drew _, Or.inl (Nat.le_refl 0), hge, hgm, ?_, ?_, ?_⟩, ⟨rfl, rfl, rfl, by simp, fun k hk _ => Below.heap_alloc w.drew _ k hk⟩⟩
    · simp only [Array.size_append, List.size_toArray, size_zeroCells, hbl]
      simp [Value.cells]
      omega
    · simp only [Array.toList_append, List.append_assoc]
      rw [← List.append_assoc, hbc]
      exact List.take_left' (by simp [hbl])
    · intro j u hj
      have hm' := Array.mem_of_getElem? hj
      rw [Array.mem_append, Array.mem_append] at hm'
      rcases hm' with (hm' | hm') | hm'
      · have : u ∈ bcells l := by simpa using hm'
        unfold bcells at this
        obtain ⟨q, _, rfl⟩ := List.mem_map.1 this
        exact ⟨_, rfl⟩
      · have : u = .int .u8 (x.toNat : Int) := by simpa using hm'
        exact ⟨_, this⟩
      · unfold Builtin.zeroCells at hm'
        simp [Value.cells] at hm'
        obtain ⟨q, -, hq⟩ := hm'
        rw [Nat.mod_one] at hq
        exact ⟨0, hq.symm⟩
theorem wpList_append_b {P : Program} {w : World} {ops : Array Oper} {rest : List Oper} {o : Oper} {a : Act} {Q : Exit → Act → World → Prop} (hgd : o.guard = none) (s x : Operand) (t : TypeId) (ho : o.op = .call { callee := .builtin .append, args := #[s, x], argTypes := #[t, t] })
    (v vx : Value) (R : Value → World → Prop) (hrun : ∃ v' w', (Builtin.append_ #[t, t] o.type #[v, vx]).run P w = .ok v' w' ∧ R v' w') (hs : a.eval s = v) (hx : a.eval x = vx)
    (h : ∀ v' w', R v' w' → wpList P ops Q rest (a.put o.dst v') w') : wpList P ops Q (o :: rest) a w := by
  refine wpList_plain hgd fun _ hK => ?_
  obtain ⟨v', w', hr, hR⟩ := hrun
  unfold Oper.wp execOp
  simp only [ho, resolve, invoke, builtin, Sem.run_bind, Sem.run_pure, Result.andThen_ok, List.map_toArray, List.map_cons, List.map_nil, hs, hx, hr]
  exact hK _ _ (h v' w' hR)
theorem brow_init (w : World) (s : ByteArray) (base : Nat) (hb : base ≤ w.heap.size) (hs : s.size ≤ 30000) : BRow (Lib.bytesWorld w 5 s) base (.slice (some ⟨w.heap.size, 0, none⟩) s.size (grownCap w s.size 0 5)) s.size (bl s) := by
  have mlen : maxLen = 9223372036854775807 := rfl
  have hge := grownCap_ge w s.size 0 5
  have hgm := grownCap_le_maxLen w s.size 0 5 (by omega)
  have hsz : (Lib.bytesCells w 5 s).size = grownCap w s.size 0 5 := by
    unfold Lib.bytesCells
    simp only [Array.size_append, Array.size_map, Array.size_replicate]
    have : s.data.size = s.size := rfl
    omega
  refine ⟨bl_len s, w.heap.size, _, _, _, rfl, hb, Lib.bytesWorld_at_new w _ s, Or.inr (Nat.le_refl _), hge, hgm, hsz, ?_, ?_⟩
  · unfold Lib.bytesCells bcells bl
    rw [Array.toList_append, Array.toList_map, List.take_left' (by simp)]
  · intro j u hj
    have hm := Array.mem_of_getElem? hj
    unfold Lib.bytesCells at hm
    rw [Array.mem_append] at hm
    rcases hm with hm | hm
    · obtain ⟨q, _, rfl⟩ := Array.mem_map.1 hm
      exact ⟨_, rfl⟩
    · exact ⟨0, (Array.mem_replicate.1 hm).2⟩
theorem conv_back {w : World} {base : Nat} {g n m cap : Nat} {l : Bs} (h : BRow w base (.slice (some ⟨g, 0, none⟩) n cap) m l) : (convert 32 9 (.slice (some ⟨g, 0, none⟩) n cap)).run Tryd.prog w = .ok (.string (bsA l)) w := by
  obtain ⟨e1, e2, hc⟩ := brow_cell h
  subst e2
  exact run_convert_bytes_back w _ _ 5 ⟨g, 0, none⟩ cap l Tryd.underlying32 Tryd.underlying5 Tryd.underlying9 hc
theorem feeds_head (k : Nat) : ∀ d, (List.replicate k (10 : UInt8)).head? = some d → kd d = 5 := by
  intro d hd
  cases k with
  | zero => simp at hd
  | succ k => rw [List.replicate_succ] at hd; simp at hd; subst hd; exact kd10
set_option maxHeartbeats 8000000 in
theorem walk (s : ByteArray) (hs : s.size ≤ maxLen) (c0 : Int) (hc : (Lit.int .u8 c0).wf = true) (w : World) (hTab : Tab w) :
    Calls Tryd.prog 9 #[.string s, .int .u8 c0] w fun e w' => e = .returned (.bool true) ∧ Below w.heap.size w w' := by
  have TB : Hid (∀ v, Below w.heap.size w v → Tab v) := Lib.hid fun v h => hTab.below h
  clear hTab
  have cb := bounds_u8 hc
  clear hc
  have FC := fun w => few_is s w hs
  have fz := fewB_size s
  generalize fewB s = t at *
  obtain ⟨ts, o, h⟩ := lexes_ex 0 (bl t)
  have tl := toks_le h
  rw [bl_len] at tl
  have HL := Lib.hid h
  clear h hs
  have CB := fun w => Lib.run_convert_string_bytes (P := Tryd.prog) w 9 32 5 t Tryd.underlying9 Tryd.underlying32 Tryd.underlying5
  go_enter Tryd.func9, Tryd.ntmps9
  go_wp2_with (first | (go_at_call 10; refine (head10_is _ (TB.out _ (Below.refl _ _))).mono ?_; rintro e' W1 ⟨rfl, hb⟩; have B1 := Lib.hid hb; clear hb) | (go_at_call 11; with_reducible refine (FC _).mono ?_; rintro e' w' ⟨rfl, rfl⟩))
  have BI := Lib.hid (brow_init W1 t w.heap.size B1.out.size (by omega))
  have B2 := Lib.hid (belT B1.out (Lib.bytesWorld_below W1 5 t))
  generalize grownCap W1 t.size 0 5 = cap0 at *
  generalize Lib.bytesWorld W1 5 t = W2 at *
  go_loopw [6] (fun b wr => ∃ (n : Nat) (l : Bs), t.size ≤ n ∧ n ≤ 20000 ∧ (∃ g cap, b = .slice (some ⟨g, 0, none⟩) n cap) ∧ Hid (BRow wr w.heap.size b n l) ∧ Hid (l = bl t ++ List.replicate (n - t.size) 10) ∧ Hid (Below w.heap.size w wr)) (fun b _ => 20000 - (match b with | .slice _ n _ => n | _ => 0))
  case atStart => exact ⟨t.size, bl t, Nat.le_refl _, by omega, ⟨_, _, rfl⟩, BI, Lib.hid (by simp), B2⟩
  case round =>
    clear BI B2
    obtain ⟨n, l, htn, hn, ⟨g, cap, rfl⟩, HBR, HL2, HB⟩ := hrel
    have tok1 : True := trivial
    by_cases hlt : n < 20000
    · have hlt' : (n : Int) < 20000 := by omega
      have HL3 : Hid (l ++ [10] = bl t ++ List.replicate (n + 1 - t.size) 10) := Lib.hid (by rw [HL2.out, List.append_assoc, show n + 1 - t.size = (n - t.size) + 1 by omega, List.replicate_succ'])
      go_wp2_with (at_builtin; refine wpList_append_b rfl _ _ 32 rfl _ _ _ (brow_append (brow_below HBR.out (belA (Below.refl _ _) (.cells #[.int .u8 10] 5))) _ ⟨wr.heap.size, 0, none⟩ 1 10 (blk_cell (blk_new wr (.cells #[.int .u8 10] 5) _ rfl) 0 _ rfl) (by omega) (by have := HB.out.size; simp; omega)) rfl rfl ?_; rintro v' w' ⟨hbr, hgr⟩; have HN := Lib.hid hbr; have HNB := Lib.hid ((belA HB.out _).grown hgr (by have := HB.out.size; simp; omega) (brow_base HBR.out)); obtain ⟨g', cap', rfl⟩ := brow_form hbr; clear hbr hgr)
      exact ⟨⟨n + 1, l ++ [10], by omega, by omega, ⟨_, _, rfl⟩, HN, HL3, HNB⟩, by simp; omega⟩
    have hlt' : ¬ (n : Int) < 20000 := by omega
    have hne : n = 20000 := by omega
    subst hne
    have CK := conv_back HBR.out
    have LZ : (bsA l).size = 20000 := by rw [bsA_size]; exact (brow_cell HBR.out).2.1
    have LP : Hid (Lexes 0 (bl (bsA l)) ts o) := Lib.hid (by rw [bl_bsA, HL2.out]; exact lexes_pad HL.out (gapL_feeds _) (feeds_head _))
    have LL : Hid (l.length = 20000) := Lib.hid (brow_cell HBR.out).2.1
    generalize bsA l = z at *
    clear HL2
    cases o with
    | none =>
      have C1 := fun wv hwv => lex_ok z ts wv (TB.out wv hwv) (by omega) LP
      have C2 := fun wv hwv => lex_ok t ts wv (TB.out wv hwv) (by omega) HL
      clear LZ LP
      go_wp2_with (first | (go_at_call 12; with_reducible refine (C1 _ HB.out).mono ?_; rintro e' W4 ⟨⟨ao, ca, rfl, hc1, hc2, hr⟩, hb⟩; have R4 := Lib.hid hr; have KR4 := Lib.hid (And.intro hc1 hc2); have B4 := Lib.hid (belT HB.out hb); have HBR4 := Lib.hid (brow_below HBR.out hb); clear hr hb hc1 hc2) | (go_at_call 11; with_reducible refine (FC _).mono ?_; rintro e' w' ⟨rfl, rfl⟩) | (go_at_call 12; with_reducible refine (C2 _ B4.out).mono ?_; rintro e' W5 ⟨⟨bo, cb, rfl, hc1, hc2, hr⟩, hb⟩; have R5 := Lib.hid hr; have KR5 := Lib.hid (And.intro hc1 hc2); have B5 := Lib.hid (belT B4.out hb); have HBR5 := Lib.hid (brow_below HBR4.out hb); have R45 := Lib.hid (trow_below R4.out hb); clear hr hb hc1 hc2))
      clear CK HBR HBR4 HB R4
      go_loopw [13, 6] (fun i b wr => ∃ (j n : Nat) (l : Bs), j ≤ 256 ∧ i = .int .i64 j ∧ 20000 ≤ n ∧ n ≤ 20000 + j ∧ (0 < j → 20000 < n) ∧ (∃ g cap, b = .slice (some ⟨g, 0, none⟩) n cap) ∧ Hid (BRow wr w.heap.size b n l) ∧ Hid (TRow wr ao ts) ∧ Hid (TRow wr bo ts) ∧ Hid (Below w.heap.size w wr)) (fun i _ _ => 256 - (intOf i).toNat)
      case atStart => exact ⟨0, 20000, l, by omega, rfl, Nat.le_refl _, by omega, by omega, ⟨_, _, rfl⟩, HBR5, R45, R5, B5⟩
      case round =>
        clear HBR5 B5 R45 R5
        obtain ⟨j, n, l, hj, rfl, hn1, hn2, hn3, ⟨g, cap, rfl⟩, HBR, RA, RB, HB⟩ := hrel
        have HN3 := Lib.hid hn3
        clear hn3
        by_cases hjt : j < 256
        · have hjt' : (j : Int) < 256 := by omega
          by_cases hjc : (j : Int) ≤ c0
          · go_wp2_with (at_builtin; refine wpList_append_b rfl _ _ 32 rfl _ _ _ (brow_append (brow_below HBR.out (belA (Below.refl _ _) (.cells #[.int .u8 10] 5))) _ ⟨wr.heap.size, 0, none⟩ 1 10 (blk_cell (blk_new wr (.cells #[.int .u8 10] 5) _ rfl) 0 _ rfl) (by omega) (by have := HB.out.size; simp; omega)) rfl rfl ?_; rintro v' w' ⟨hbr, hgr⟩; have HN := Lib.hid hbr; have HNB := Lib.hid ((belA HB.out _).grown hgr (by have := HB.out.size; simp; omega) (brow_base HBR.out)); have RA2 := Lib.hid (trow_kept (brow_below HBR.out (belA (Below.refl _ _) _)) hgr (trow_alloc RA.out _)); have RB2 := Lib.hid (trow_kept (brow_below HBR.out (belA (Below.refl _ _) _)) hgr (trow_alloc RB.out _)); obtain ⟨g', cap', rfl⟩ := brow_form hbr; clear hbr hgr)
            exact ⟨⟨j + 1, n + 1, l ++ [10], by omega, by go_num, by omega, by omega, by omega, ⟨_, _, rfl⟩, HN, RA2, RB2, HNB⟩, by simp [intOf]; omega⟩
          · have hjc' : c0 < (j : Int) := by omega
            go_wp2_with fail
            exact ⟨⟨j + 1, n, l, by omega, by go_num, hn1, by omega, fun _ => HN3.out (by omega), ⟨_, _, rfl⟩, HBR, RA, RB, HB⟩, by simp [intOf]; omega⟩
        have hjt' : ¬ (j : Int) < 256 := by omega
        have hn4 : 20000 < n := HN3.out (by omega)
        have CK := conv_back HBR.out
        have LZ : (bsA l).size = n := by rw [bsA_size]; exact (brow_cell HBR.out).2.1
        have mlen : maxLen = 9223372036854775807 := rfl
        have CX := fun w => lex_big (bsA l) w (by omega) (by omega)
        generalize bsA l = y at *
        clear LZ
        go_wp2_with (first | (go_at_call 12; with_reducible refine (CX _).mono ?_; rintro e' W7 ⟨rfl, hb⟩; have B7 := Lib.hid (belT HB.out hb); have RA7 := Lib.hid (trow_below RA.out hb); have RB7 := Lib.hid (trow_below RB.out hb); clear hb) | (go_at_call 14; refine (sameT_is ao bo ts.length ts.length ca cb ts ts true _ rfl rfl (Lib.hid (decide_eq_true rfl)) (by omega) (by omega) RA7.out RB7.out).mono ?_; rintro e' W8 ⟨rfl, hb⟩; have B8 := Lib.hid (belT B7.out hb); clear hb))
        go_ret
        exact ⟨rfl, B8.out⟩
    | some p =>
      have C1 := fun wv hwv => lex_err z ts p wv (TB.out wv hwv) (by omega) LP
      have C2 := fun wv hwv => lex_err t ts p wv (TB.out wv hwv) (by omega) HL
      clear LZ LP
      go_wp2_with (first | (go_at_call 12; with_reducible refine (C1 _ HB.out).mono ?_; rintro e' W4 ⟨rfl, hb⟩; have B4 := Lib.hid (belT HB.out hb); have HBR4 := Lib.hid (brow_below HBR.out hb); clear hb) | (go_at_call 11; with_reducible refine (FC _).mono ?_; rintro e' w' ⟨rfl, rfl⟩) | (go_at_call 12; with_reducible refine (C2 _ B4.out).mono ?_; rintro e' W5 ⟨rfl, hb⟩; have B5 := Lib.hid (belT B4.out hb); have HBR5 := Lib.hid (brow_below HBR4.out hb); clear hb))
      clear CK HBR HBR4 HB
      go_loopw [13, 6] (fun i b wr => ∃ (j n : Nat) (l : Bs), j ≤ 256 ∧ i = .int .i64 j ∧ 20000 ≤ n ∧ n ≤ 20000 + j ∧ (0 < j → 20000 < n) ∧ (∃ g cap, b = .slice (some ⟨g, 0, none⟩) n cap) ∧ Hid (BRow wr w.heap.size b n l) ∧ Hid (Below w.heap.size w wr)) (fun i _ _ => 256 - (intOf i).toNat)
      case atStart => exact ⟨0, 20000, l, by omega, rfl, Nat.le_refl _, by omega, by omega, ⟨_, _, rfl⟩, HBR5, B5⟩
      case round =>
        clear HBR5 B5
        obtain ⟨j, n, l, hj, rfl, hn1, hn2, hn3, ⟨g, cap, rfl⟩, HBR, HB⟩ := hrel
        have HN3 := Lib.hid hn3
        clear hn3
        by_cases hjt : j < 256
        · have hjt' : (j : Int) < 256 := by omega
          by_cases hjc : (j : Int) ≤ c0
          · go_wp2_with (at_builtin; refine wpList_append_b rfl _ _ 32 rfl _ _ _ (brow_append (brow_below HBR.out (belA (Below.refl _ _) (.cells #[.int .u8 10] 5))) _ ⟨wr.heap.size, 0, none⟩ 1 10 (blk_cell (blk_new wr (.cells #[.int .u8 10] 5) _ rfl) 0 _ rfl) (by omega) (by have := HB.out.size; simp; omega)) rfl rfl ?_; rintro v' w' ⟨hbr, hgr⟩; have HN := Lib.hid hbr; have HNB := Lib.hid ((belA HB.out _).grown hgr (by have := HB.out.size; simp; omega) (brow_base HBR.out)); obtain ⟨g', cap', rfl⟩ := brow_form hbr; clear hbr hgr)
            exact ⟨⟨j + 1, n + 1, l ++ [10], by omega, by go_num, by omega, by omega, by omega, ⟨_, _, rfl⟩, HN, HNB⟩, by simp [intOf]; omega⟩
          · have hjc' : c0 < (j : Int) := by omega
            go_wp2_with fail
            exact ⟨⟨j + 1, n, l, by omega, by go_num, hn1, by omega, fun _ => HN3.out (by omega), ⟨_, _, rfl⟩, HBR, HB⟩, by simp [intOf]; omega⟩
        have hjt' : ¬ (j : Int) < 256 := by omega
        have hn4 : 20000 < n := HN3.out (by omega)
        have CK := conv_back HBR.out
        have LZ : (bsA l).size = n := by rw [bsA_size]; exact (brow_cell HBR.out).2.1
        have mlen : maxLen = 9223372036854775807 := rfl
        have CX := fun w => lex_big (bsA l) w (by omega) (by omega)
        generalize bsA l = y at *
        clear LZ
        go_wp2_with (first | (go_at_call 12; with_reducible refine (CX _).mono ?_; rintro e' W7 ⟨rfl, hb⟩; have B7 := Lib.hid (belT HB.out hb); clear hb) | (go_at_call 14; refine (sameT_is none none 0 0 0 0 [] [] true _ rfl rfl (Lib.hid (decide_eq_true rfl)) (by simp) (by simp) (trow_nil _ _) (trow_nil _ _)).mono ?_; rintro e' W8 ⟨rfl, hb⟩; have B8 := Lib.hid (belT B7.out hb); clear hb))
        go_ret
        exact ⟨rfl, B8.out⟩

set_option maxRecDepth 100000 in
theorem lifted (os : Os) (started : os.Started) (H : Type) (enc : TypeId × Value → H) :
    ReturnsInHanded {} Tryd.checked os 9 .any (fun w args => (Rows.lexerBigSpec.pre enc Tryd.prog Tryd.f9 [] false w args ∧ laidMetH Tryd.prog Rows.lexerBigRow.laid w) ∧ sizedMet enc Tryd.prog Tryd.f9 (OpenSpec.ofChange Rows.lexerBigSpec) false w args)
      (Rows.lexerBigSpec.post enc Tryd.prog Tryd.f9 false true false false) := by
  refine returnsInHanded_of_change_and (C := Tryd.checked) (X := fun w _ => laidMetH Tryd.prog Rows.lexerBigRow.laid w) (fun _ _ _ hh h => h.of_heap hh) own started (by kernel_rfl) Tryd.func9
    (ChangeSpec.witness_shaped (enc := enc) (C := Tryd.checked) (os := os) (X := fun w _ => laidMetH Tryd.prog Rows.lexerBigRow.laid w) false (World.doorLaid Tryd.prog 600 os) #[.string ⟨#[]⟩, .int .u8 0] 8 rfl (World.shaped_of_RefB (by kernel_rfl) (by kernel_rfl)) (by kernel_rfl) (by kernel_rfl) (by kernel_rfl) (show laidMetH Tryd.prog [(qn, Rows.laid_ambidexter_lexer_classes)] _ from door_met os _)) ?_
  intro W base args ds gs before hval0 hW _ _ hL _
  have hval : ∀ (j : Nat) t v, Tryd.f9.params[j]? = some t → args[j]? = some v → Value.okWide Tryd.prog W .any base t v := hval0
  have hW' := hW
  obtain ⟨p, q, hA0, hV, rfl, hfz, hnd⟩ := hW
  have hA : DataW.TrodAll enc Tryd.prog W 0 (fun _ => true) true Tryd.f9.params.toList args.toList ds p := hA0
  rw [Tryd.params9] at hA hval
  obtain ⟨v0, vs0, d0, ds0, p0, q0, hargs, rfl, rfl, h0, r0⟩ := trodAll_cons hA
  obtain ⟨v1, vs1, d1, ds1, p1, q1, rfl, rfl, rfl, h1, r1⟩ := trodAll_cons r0
  obtain ⟨rfl, rfl, rfl⟩ := trodAll_nil r1
  obtain rfl : args = #[v0, v1] := by cases args; simp_all
  obtain ⟨rfl, rfl⟩ := trodVars_none hV
  obtain ⟨a0, rfl, rfl, rfl, w0⟩ := Go.ChangeMaps.open_string Tryd.underlying9 (hval 0 9 v0 rfl rfl) h0
  obtain ⟨a1, rfl, rfl, rfl, w1⟩ := open_int Tryd.underlying5 (hval 1 5 v1 rfl rfl) h1
  clear hA0 hval0
  simp only [List.append_nil] at hW'
  refine (walk (w := W) (hTab := tab_of_laid hL) a0 w0 a1 w1).mono fun e W' ⟨he, bel⟩ => ?_
  subst he
  exact ⟨_, rfl, _, _, _, [], _, [], hW', trodAll_mk1 (shut_bool Tryd.underlying4 _), (trodAll_cons_mk (Go.ChangeMaps.shut_string Tryd.underlying9 w0) (trodAll_cons_mk (shut_int Tryd.underlying5 w1) trodAll_mk0)), rfl, bel.frame _, fun h => by cases h⟩

theorem holds : Rows.LexerBigSaid :=
  OpenClaim.holds_of_wide 9 Tryd.f9 rfl rfl rfl rfl rfl rfl rfl ⟨rfl, rfl, rfl, rfl, rfl⟩ rfl rfl rfl rfl rfl (by kernel_rfl) Tryd.func9 (by kernel_rfl)
    (of_decide_eq_true (by kernel_rfl)) (by unfold Func.isWrapper; first | (rw [if_pos (by decide +kernel)]; kernel_rfl) | (rw [if_neg (by decide +kernel)]; exact ⟨rfl, rfl⟩))
    (fun os started H enc _ => lifted os started H enc)

/-- THE STATEMENT: the tied card. -/
theorem card_holds : Rows.LexerBigCardSaid :=
  Claim7.holds_tied_plain_at .later [] [.data] true Rows.lexerBigCard.stood.harness false
    holds (fun _ h => by cases h) (by kernel_rfl) (fun _ h => by cases h) lexerBig_row_tie rfl ⟨rfl, rfl⟩ (by kernel_rfl) rfl
    (fun f fn hf hfn => by
      obtain rfl : f = 9 := Option.some.inj ((show Tryd.prog.funcNamed Rows.lexerBigRow.func = some 9 by kernel_rfl).symm.trans hf) |>.symm
      obtain rfl : fn = Tryd.f9 := (Option.some.inj (Tryd.func9.symm.trans hfn)).symm
      exact ⟨by kernel_rfl, fun j t ht => by
        rw [Tryd.params9] at ht
        have hm : t ∈ [9, 5] := by have := Array.mem_of_getElem? ht; simp only [List.mem_toArray, List.mem_cons, List.not_mem_nil, or_false] at this ⊢; grind
        have hall : ([9, 5].all fun u => !Tryd.prog.wantsStandIn u) = true := by kernel_rfl
        exact (show Tryd.prog.wantsStandIn t = false by simpa using List.all_eq_true.1 hall t hm)⟩)
    (by kernel_rfl)
#print axioms card_holds
end Go.Proofs.YtfimejmmcfdgaaaDoor.lexerBig
