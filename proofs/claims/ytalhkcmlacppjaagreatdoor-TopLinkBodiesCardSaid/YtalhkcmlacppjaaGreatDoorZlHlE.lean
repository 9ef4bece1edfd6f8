/- Helpers: what the law reaches. -/
import Derived.Deep.AppendLies
import Derived.Test.YtalhkcmlacppjaaGreatDoorZlHlD
namespace Go.Proofs.YtalhkcmlacppjaaGreatDoor
open Go.ChangeShapes Go.WideShapes Go.ChangeAt Go.RowKit
set_option linter.unusedVariables false
set_option linter.unusedSimpArgs false

theorem tail_append {F : Fence} {n0 : Nat} {P : Program} {ops : Array Oper} {Q : Exit → Act → World → Prop} {i0 : Nat} {rest : List Nat} {a : Act} {w : World} {o : Oper} (hF : F.fn = fun _ => True) (hd : F.depth = none) (ha : F.alive = false) (hio : ops[i0]? = some o) (hgd : o.guard = none) (s x : Operand) (t : TypeId)
    (ho : o.op = .call { callee := .builtin .append, args := #[s, x], argTypes := #[t, t] })
    (base : Nat) (e : TypeId) (i : TypeInfo) (z : Value) (size bytes : Nat) (ht : P.underlying t = some (.slice e)) (hi : P.info? e = some i) (hz : i.zero = some z)
    (hsize : i.size = size) (hby : i.bytes = bytes) (hzs : z.cells.size = size) (hsz : 0 < size)
    (v : Value) (n : Nat) (xs : List Value) (hs : a.eval s = v) (hown : w.ownsRow base e size v n xs)
    (ad : Addr) (m c : Nat) (news : List Value) (hx : a.eval x = .slice (some ad) m c) (hl : news.length = m * size) (hnews : ∀ j u, news[j]? = some u → w.cell? (ad.add j) = some u) (h1 : ∀ u ∈ news, u.oneCell' = true)
    (hm : 0 < m) (h63 : n + m ≤ maxLen) (hbytes : (n + m) * bytes ≤ 140737488355328) (hbase : base ≤ w.heap.size)
    (h : ∀ g cap w', w'.ownsRow base e size (.slice (some ⟨g, 0, none⟩) (n + m) cap) (n + m) (xs ++ news) → w.grownBy w' v.ownBlock → (v.ownBlock = some g ∨ g = w.heap.size) → g < w'.heap.size → wpOpsIn F n0 P ops Q rest (a.put o.dst (.slice (some ⟨g, 0, none⟩) (n + m) cap)) w') : wpOpsIn F n0 P ops Q (i0 :: rest) a w := by
  rw [wpOpsIn_cons]
  unfold wpOpIn
  simp only [hio]
  rw [if_pos (by simp [Region.wanted, hgd])]
  exact op_in hF hd ha (by rw [ho]; intro c e; cases e) (wp_append_lies w s x t ho base e i z size bytes ht hi hz hsize hby hzs hsz v n xs hs hown ad m c news hx hl hnews h1 hm h63 hbytes hbase w.heap.size rfl h)

/-- The stack of the program: the bottom first. -/
theorem own_row {w : World} {base : Nat} {v : Value} {l : List (Int × Int)} (h : w.ownsRow base 23 2 v l.length (flat l)) : ∃ ao c, v = .slice ao l.length c ∧ PRow w ao l := (ownP_row h).row
theorem own_bel {w w' : World} {base : Nat} {v : Value} {n : Nat} {xs : List Value} (h : w.ownsRow base 23 2 v n xs) (hb : Below w.heap.size w w') : w'.ownsRow base 23 2 v n xs := by
  refine h.kept (grown_of_below hb) ?_
  rcases h.2 with ⟨rfl, _⟩ | ⟨g, cap, cur, rfl, _⟩
  · exact .inl rfl
  · exact .inr (by simp [Value.ownBlock])
theorem boxed_below {w w' : World} {B : Nat} {t : TypeId} {v : Value} (h : Boxed w B t v) (hb : Below w.heap.size w w') : Boxed w' B t v := (hb.block B h.lt).trans h
theorem prow_one {w : World} {b : Nat} {x y : Int} (h1 : w.cell? ⟨b, 0, none⟩ = some (.int .i64 x)) (h2 : w.cell? ⟨b, 1, none⟩ = some (.int .i64 y)) : PRow w (some ⟨b, 0, none⟩) [(x, y)] := fun i hi => by
  obtain rfl : i = 0 := by simp at hi; omega
  exact ⟨b, 0, rfl, h1, h2⟩
theorem row_news {w : World} {b : Nat} {x y : Int} (h : PRow w (some ⟨b, 0, none⟩) [(x, y)]) : ∀ j u, ([.int .i64 x, .int .i64 y] : List Value)[j]? = some u → w.cell? ((⟨b, 0, none⟩ : Addr).add j) = some u := fun j u hu => by
  obtain ⟨b', o', e, c1, c2⟩ := h 0 (by simp)
  cases e
  match j, hu with
  | 0, hu => simp at hu; subst hu; simpa [Addr.add] using c1
  | 1, hu => simp at hu; subst hu; simpa [Addr.add] using c2
theorem pop_take {p : Int × Int} {st : List (Int × Int)} {n : Nat} (h2 : 2 ≤ n) (hn : n ≤ st.length) (hd : dt (gp st (n - 2)) (gp st (n - 1)) p ≤ 0) : popS p (st.take n).reverse = popS p (st.take (n - 1)).reverse := by
  obtain ⟨m, rfl⟩ : ∃ m, n = m + 2 := ⟨n - 2, by omega⟩
  have e1 : st.take (m + 2) = st.take (m + 1) ++ [gp st (m + 1)] := by rw [List.take_succ_eq_append_getElem (show m + 1 < st.length by omega), gp_lt (show m + 1 < st.length by omega)]
  have e2 : st.take (m + 1) = st.take m ++ [gp st m] := by rw [List.take_succ_eq_append_getElem (show m < st.length by omega), gp_lt (show m < st.length by omega)]
  rw [e1, show m + 2 - 1 = m + 1 from rfl, e2]
  simp only [List.reverse_append, List.reverse_cons, List.reverse_nil, List.nil_append, List.cons_append]
  have hd' : dt (gp st m) (gp st (m + 1)) p ≤ 0 := hd
  show (if dt (gp st m) (gp st (m + 1)) p ≤ 0 then _ else _) = _
  rw [if_pos hd']
theorem pop_stop {p : Int × Int} {st : List (Int × Int)} {n : Nat} (h2 : 2 ≤ n) (hn : n ≤ st.length) (hd : ¬ dt (gp st (n - 2)) (gp st (n - 1)) p ≤ 0) : popS p (st.take n).reverse = (st.take n).reverse := by
  obtain ⟨m, rfl⟩ : ∃ m, n = m + 2 := ⟨n - 2, by omega⟩
  have e1 : st.take (m + 2) = st.take (m + 1) ++ [gp st (m + 1)] := by rw [List.take_succ_eq_append_getElem (show m + 1 < st.length by omega), gp_lt (show m + 1 < st.length by omega)]
  have e2 : st.take (m + 1) = st.take m ++ [gp st m] := by rw [List.take_succ_eq_append_getElem (show m < st.length by omega), gp_lt (show m < st.length by omega)]
  rw [e1, e2]
  simp only [List.reverse_append, List.reverse_cons, List.reverse_nil, List.nil_append, List.cons_append]
  have hd' : ¬ dt (gp st m) (gp st (m + 1)) p ≤ 0 := hd
  show (if dt (gp st m) (gp st (m + 1)) p ≤ 0 then _ else _) = _
  rw [if_neg hd']
theorem pop_short {p : Int × Int} {st : List (Int × Int)} {n : Nat} (h2 : n < 2) : popS p (st.take n).reverse = (st.take n).reverse := by
  match n, h2 with
  | 0, _ => simp [popS]
  | 1, _ =>
    cases st with
    | nil => rfl
    | cons a r => simp [popS]


theorem own_take {w : World} {base g cap : Nat} {st : List (Int × Int)} (h : w.ownsRow base 23 2 (.slice (some ⟨g, 0, none⟩) st.length cap) st.length (flat st)) (n : Nat) (hn : n ≤ st.length) : w.ownsRow base 23 2 (.slice (some ⟨g, 0, none⟩) n cap) n (flat (st.take n)) := by
  obtain ⟨h1, ⟨h2, _⟩ | ⟨g', cap', cur, he, k1, k2, k3, k4, k5, k6⟩⟩ := h
  · cases h2
  · cases he
    refine ⟨by rw [flat_len, List.length_take, Nat.min_eq_left hn], .inr ⟨g, cap, cur, rfl, k1, k2, by omega, k4, k5, ?_⟩⟩
    have e : flat st = flat (st.take n) ++ flat (st.drop n) := by rw [← flat_app, List.take_append_drop]
    have e2 : cur.toList.take (n * 2) = (cur.toList.take (st.length * 2)).take (n * 2) := by rw [List.take_take, Nat.min_eq_left (by omega)]
    rw [e2, k6, e, List.take_append_of_le_length (by rw [flat_len, List.length_take, Nat.min_eq_left hn]; exact Nat.le_refl _), List.take_of_length_le (by rw [flat_len, List.length_take, Nat.min_eq_left hn]; exact Nat.le_refl _)]

set_option maxRecDepth 100000 in
set_option maxHeartbeats 4000000 in
theorem push_nil (base Bs : Nat) (p1 p2 : Int) (w : World) (hb0 : base ≤ Bs)
    (hS : Boxed w Bs 29 (.slice none 0 0)) :
    Calls Tryz.prog 87 #[.agg #[.int .i64 p1, .int .i64 p2], .pointer (some ⟨Bs, 0, none⟩)] w fun e w' => e = .returned (.tuple #[]) ∧ (∃ v', Boxed w' Bs 29 v' ∧ w'.ownsRow base 23 2 v' 1 (flat [(p1, p2)]) ∧ v' ≠ .slice none 0 0) ∧ Below base w w' := by
  obtain ⟨i0, hi, hz0, hz1', hz2⟩ := info_parts infoP
  have hbl := hS.lt
  have HS := Lib.hid hS
  have cS := hS.cell
  have hb0' : base ≤ w.heap.size := by omega
  clear hS
  go_enter Tryz.func87, Tryz.ntmps87
  go_wp2
  have hB1 := Lib.hid (belA (Below.refl _ w) (.cells #[.int .i64 p1, .int .i64 p2] 23))
  have hx := blk_new w (.cells #[.int .i64 p1, .int .i64 p2] 23) w.heap.size rfl
  have HS1 := Lib.hid (HS.out.alloc (.cells #[.int .i64 p1, .int .i64 p2] 23))
  have hsz1 : (w.alloc (.cells #[.int .i64 p1, .int .i64 p2] 23)).heap.size = w.heap.size + 1 := by simp
  generalize w.alloc (.cells #[.int .i64 p1, .int .i64 p2] 23) = w1 at *
  clear HS cS
  generalize hzp : w.heap.size = zp at *
  have HZ := Lib.hid hzp
  have y0 := blk_cell hx 0 _ rfl
  have y1 := blk_cell hx 1 _ rfl
  have yS := HS1.out.cell
  go_loopw [3] (fun s3 wr => s3 = .int .i64 0 ∧ wr = w1) (fun s3 _ => 0)
  case atStart => exact ⟨rfl, rfl⟩
  case round =>
    obtain ⟨rfl, rfl⟩ := hrel
    have zl : zp < wr.heap.size := by omega
    have bl : Bs < wr.heap.size := by omega
    have G0 := fun n os => cell_grown (n := n) (os := os) zl y0
    go_wp2_with fail
    refine wq_region mixedP (by kernel_rfl) ?_
    repeat (refine wq_step (fun K hK => ?_); go_simp; first | (refine hK _ ?_; clear hK K) | (apply Exists.intro; refine ⟨fun _ => ?_, hK _ ?_⟩; (fail); clear hK K))
    refine wq_nil ?_
    intro _ hw'
    obtain ⟨⟨nq, osq⟩, hw''⟩ := hw'
    subst hw''
    have HB3 := Lib.hid (hB1.out.trans (by rw [← hzp]; exact (below_gr wr nq osq).mono hB1.out.size))
    have HS3 := Lib.hid (boxed_below HS1.out (below_gr wr nq osq))
    have HO3 : Hid ((Sort.grow (wr.drewN nq) osq).ownsRow base 23 2 (.slice none 0 0) 0 (flat [])) := Lib.hid ⟨rfl, .inl ⟨rfl, rfl⟩⟩
    have x0 := (below_gr wr nq osq).cell (p := ⟨zp, 0, none⟩) zl |>.trans y0
    have x1 := (below_gr wr nq osq).cell (p := ⟨zp, 1, none⟩) zl |>.trans y1
    have xS := HS3.out.cell
    have HU : Hid (([(p1, p2)] : List (Int × Int)) = [] ++ [(p1, p2)]) := Lib.hid rfl
    have hnm : True := trivial
    clear y0 y1 yS G0
    generalize Sort.grow (wr.drewN nq) osq = w3 at *
    go_wp2_with fail
    obtain ⟨sp, hsp⟩ : ∃ sp : Told, sp = [none, none, none, none, none, none, none, none, none, none, none, none, none, none, none, none, none, none, none, none, none, none, none, none, none, some (.inl (.slice (none) 0 0)), some (.inl (.int .i64 (0 : Int))), some (.inl (.slice (none) 0 0)), some (.inl (.agg #[.int .i64 p1, .int .i64 p2])), some (.inr [(p1, p2)]), none] := ⟨_, rfl⟩
    have s25 : sp.getD 25 none = some (.inl (.slice (none) 0 0)) := by rw [hsp]; rfl
    have s26 : sp.getD 26 none = some (.inl (.int .i64 (0 : Int))) := by rw [hsp]; rfl
    have s27 : sp.getD 27 none = some (.inl (.slice (none) 0 0)) := by rw [hsp]; rfl
    have s28 : sp.getD 28 none = some (.inl (.agg #[.int .i64 p1, .int .i64 p2])) := by rw [hsp]; rfl
    have s29 : sp.getD 29 none = some (.inr [(p1, p2)]) := by rw [hsp]; rfl
    clear hsp
    refine (wpIn_wide (n := 0)).1 (region_headM sp 5 rfl rfl rfl (by kernel_rfl) (by decide) (by kernel_rfl) (by kernel_rfl) (by kernel_rfl) ?_ ?_)
    · intro Q'; show ObsM _ _ _ _ _ _ _ _ (List.take _ _); simp only [List.take_succ_cons, List.take_zero]
      refine obsM_cons ?_ ?_
      · intro T wx K hB hF hD hK
        have g1 : T[1]? = some (.pointer (some ⟨Bs, 0, none⟩)) := hF 1 (freeM_of (by kernel_rfl))
        refine ob_yes (wanted_none rfl) ?_
        clear hF hD
        have c0 := cell_call xS hB
        go_simp
        exact hK _ _ (Below.refl _ _) (rt_eq s25)
      refine obsM_cons ?_ ?_
      · intro T wx K hB hF hD hK
        have g3 : T[3]? = some (.int .i64 (0 : Int)) := hF 3 (freeM_of (by kernel_rfl))
        refine ob_yes (wanted_none rfl) ?_
        clear hF hD
        go_simp
        exact hK _ _ (Below.refl _ _) (rt_eq s26)
      refine obsM_cons ?_ ?_
      · intro T wx K hB hF hD hK
        have g25 := get_eq (hD 0 25 (by simp [Region.binds]) (by kernel_rfl)) s25
        have g26 := get_eq (hD 1 26 (by simp [Region.binds]) (by kernel_rfl)) s26
        refine ob_yes (wanted_none rfl) ?_
        clear hF hD
        go_simp
        exact hK _ _ (Below.refl _ _) (rt_eq s27)
      refine obsM_cons ?_ ?_
      · intro T wx K hB hF hD hK
        have g2 : T[2]? = some (.pointer (some ⟨zp, 0, none⟩)) := hF 2 (freeM_of (by kernel_rfl))
        refine ob_yes (wanted_none rfl) ?_
        clear hF hD
        have c0 := cell_call x0 hB
        have c1 := cell_call x1 hB
        go_simp
        exact hK _ _ (Below.refl _ _) (rt_eq s28)
      refine obsM_cons ?_ ?_
      · intro T wx K hB hF hD hK
        have g28 := get_eq (hD 3 28 (by simp [Region.binds]) (by kernel_rfl)) s28
        refine ob_yes (wanted_none rfl) ?_
        clear hF hD
        go_simp
        exact hK _ _ (belA (Below.refl _ _) _) (rt_row s29 rfl (prow_one (cbx _ _ _ _ 0 _ rfl rfl) (cbx _ _ _ _ 1 _ rfl rfl)))
      exact obsM_nil
    · intro T w8 hb hF hs hD
      have g25 := get_eq (hD 0 25 (by decide) (by kernel_rfl)) s25
      have g26 := get_eq (hD 1 26 (by decide) (by kernel_rfl)) s26
      have g27 := get_eq (hD 2 27 (by decide) (by kernel_rfl)) s27
      have g28 := get_eq (hD 3 28 (by decide) (by kernel_rfl)) s28
      obtain ⟨bn, cn, g29, pn⟩ := get_row (hD 4 29 (by decide) (by kernel_rfl)) s29
      have hT := conc [(25, .slice (none) 0 0), (26, .int .i64 (0 : Int)), (27, .slice (none) 0 0), (28, .agg #[.int .i64 p1, .int .i64 p2]), (29, .slice (some ⟨bn, 0, none⟩) 1 cn)] hs hF (by simp only [List.forall_mem_cons]; exact ⟨g25, g26, g27, g28, g29, fun p hp => absurd hp List.not_mem_nil⟩) (by kernel_rfl)
      simp only [List.foldl, List.setIfInBounds_toArray, List.set_cons_succ, List.set_cons_zero] at hT
      subst hT
      clear hF hD hs g25 g26 g27 g28 g29 s25 s26 s27 s28 s29
      have hs8 := hb.size
      have HB8 := Lib.hid (HB3.out.trans (hb.mono (by have := HB3.out.size; have := HZ.out; omega)))
      have HS8 := boxed_below HS3.out hb
      have HO8 := own_bel HO3.out hb
      have z8 : base ≤ w8.heap.size := by have := HS8.lt; omega
      clear hb x0 x1 xS
      show wpOpsIn _ _ _ _ _ [5, 6] _ _
      refine tail_append rfl rfl rfl rfl rfl (.tmp 27) (.tmp 29) 29 rfl base 23 i0 (.agg #[.int .i64 0, .int .i64 0]) 2 16 Tryz.underlying29 hi hz0 hz1' hz2 rfl (by decide) _ _ _ rfl HO8 ⟨bn, 0, none⟩ 1 cn [.int .i64 p1, .int .i64 p2] rfl rfl (row_news pn) (by intro u hu; simp at hu; rcases hu with rfl | rfl <;> rfl) (by decide) (by unfold maxLen; omega) (by omega) (by omega) ?_
      intro g' cap' w9 hown' hgrow hat hlt
      have HN := Lib.hid (HS8.not_row (by decide) HO8)
      have hv1 := HS8.kept hgrow HN.out
      have hc1 := hv1.cell
      have hf1 := hv1.frozen
      have HB9 : Hid (Below base w w9) := Lib.hid ((HB8.out.mono hb0').grown hgrow z8 (fun k e => (HO8.lt k e).1))
      have HW := Lib.hid hv1
      have HWN := Lib.hid (hv1.not_row (by decide) hown')
      have HOW := Lib.hid hown'
      clear hgrow hown' hv1
      simp only [wpOpsIn]
      go_simp
      go_wp2
      go_end0
      refine ⟨rfl, ⟨_, HW.out.set _, ?_, fun h => by cases h⟩, HB9.out.setCell (p := ⟨Bs, 0, none⟩) hb0 _⟩
      have := HOW.out.kept (grownBy_setCell' w9 Bs (.slice (some ⟨g', 0, none⟩) (0 + 1) cap')) (.inr HWN.out.symm)
      rw [HU.out, flat_app, show flat [(p1, p2)] = [.int .i64 p1, .int .i64 p2] from rfl]
      simpa [List.length_take, hnm] using this

set_option maxRecDepth 100000 in
set_option maxHeartbeats 4000000 in
theorem push_some (base Bs g cap : Nat) (p1 p2 : Int) (st us : List (Int × Int)) (w : World) (hb0 : base ≤ Bs) (hle : st.length ≤ 1000000) (hV : AllV st) (hp1 : InV p1) (hp2 : InV p2) (hu : Hid (us = (pushS st.reverse (p1, p2)).reverse))
    (hS : Boxed w Bs 29 (.slice (some ⟨g, 0, none⟩) st.length cap)) (hO : w.ownsRow base 23 2 (.slice (some ⟨g, 0, none⟩) st.length cap) st.length (flat st)) (hcap : st.length ≤ cap) (hcm : cap ≤ maxLen) :
    Calls Tryz.prog 87 #[.agg #[.int .i64 p1, .int .i64 p2], .pointer (some ⟨Bs, 0, none⟩)] w fun e w' => e = .returned (.tuple #[]) ∧ (∃ v', Boxed w' Bs 29 v' ∧ w'.ownsRow base 23 2 v' us.length (flat us) ∧ v' ≠ .slice none 0 0) ∧ Below base w w' := by
  obtain ⟨i0, hi, hz0, hz1', hz2⟩ := info_parts infoP
  have hbl := hS.lt
  have hgl := (hO.lt g rfl).2
  have HS := Lib.hid hS
  have HO := Lib.hid hO
  obtain ⟨ao, c, he, hP⟩ := own_row hO
  cases he
  have cS := hS.cell
  have HP := Lib.hid hP
  have HV := Lib.hid hV
  have HPV := Lib.hid (And.intro hp1 hp2)
  have hb0' : base ≤ w.heap.size := by omega
  clear hP hV hp1 hp2 hS hO
  go_enter Tryz.func87, Tryz.ntmps87
  go_wp2
  have hB1 := Lib.hid (belA (Below.refl _ w) (.cells #[.int .i64 p1, .int .i64 p2] 23))
  have hx := blk_new w (.cells #[.int .i64 p1, .int .i64 p2] 23) w.heap.size rfl
  have HS1 := Lib.hid (HS.out.alloc (.cells #[.int .i64 p1, .int .i64 p2] 23))
  have HO1 := Lib.hid (HO.out.alloc (.cells #[.int .i64 p1, .int .i64 p2] 23))
  have HP1 := Lib.hid (prow_alloc HP.out (.cells #[.int .i64 p1, .int .i64 p2] 23))
  have hsz1 : (w.alloc (.cells #[.int .i64 p1, .int .i64 p2] 23)).heap.size = w.heap.size + 1 := by simp
  generalize w.alloc (.cells #[.int .i64 p1, .int .i64 p2] 23) = w1 at *
  clear HS HO HP cS
  generalize hzp : w.heap.size = zp at *
  have HZ := Lib.hid hzp
  clear hzp
  go_loopw [3] (fun s3 wr => ∃ n : Nat, n ≤ st.length ∧ s3 = .int .i64 n ∧ popS (p1, p2) (st.take n).reverse = popS (p1, p2) st.reverse ∧ Below w1.heap.size w1 wr) (fun s3 _ => (intOf s3).toNat)
  case atStart => exact ⟨st.length, Nat.le_refl _, rfl, by rw [List.take_length], Below.refl _ _⟩
  case round =>
    obtain ⟨n, hn, rfl, hpop, hB⟩ := hrel
    have HB := Lib.hid hB
    have HPOP := Lib.hid hpop
    have HS2 := boxed_below HS1.out hB
    have HO2 := Lib.hid (own_bel HO1.out hB)
    have y0 := (hB.cell (p := ⟨zp, 0, none⟩) (by show zp < _; omega)).trans (blk_cell hx 0 _ rfl)
    have y1 := (hB.cell (p := ⟨zp, 1, none⟩) (by show zp < _; omega)).trans (blk_cell hx 1 _ rfl)
    have yS := HS2.cell
    have zl : zp < wr.heap.size := Nat.lt_of_lt_of_le (by omega) hB.size
    have bl : Bs < wr.heap.size := HS2.lt
    have HP2 := prow_below HP1.out hB
    have HBS := Lib.hid HS2
    have G0 := fun n os => cell_grown (n := n) (os := os) zl y0
    have G1 := fun n os => cell_grown (n := n) (os := os) zl y1
    have GS := fun n os => cell_grown (n := n) (os := os) bl yS
    have gl : g < wr.heap.size := Nat.lt_of_lt_of_le (by omega) hB.size
    clear hB hpop HS2
    by_cases h2 : 2 ≤ n
    · obtain ⟨i, hi2⟩ : ∃ i : Nat, (n : Int) - 2 = (i : Int) := ⟨n - 2, by omega⟩
      obtain ⟨j, hj1⟩ : ∃ j : Nat, (n : Int) - 1 = (j : Int) := ⟨n - 1, by omega⟩
      have hil : i < st.length := by omega
      have hjl : j < st.length := by omega
      obtain ⟨b, o, hbo, c1, c2⟩ := prow_at HP2 hil
      cases hbo
      obtain ⟨b', o', ho', c3, c4⟩ := prow_at HP2 hjl
      cases ho'
      have V1 := HV.out i hil
      have V2 := HV.out j hjl
      have ED := Lib.hid (show dt (gp st (n - 2)) (gp st (n - 1)) (p1, p2) = det (cx st i) (cy st i) (cx st j) (cy st j) p1 p2 by
        rw [show n - 2 = i by omega, show n - 1 = j by omega]; rfl)
      generalize cx st i = a1 at *
      generalize cy st i = a2 at *
      generalize cx st j = b1 at *
      generalize cy st j = b2 at *
      obtain ⟨d, hd⟩ : ∃ d, det a1 a2 b1 b2 p1 p2 = d := ⟨_, rfl⟩
      have C := Lib.hid (fun W => cross_gr a1 a2 b1 b2 p1 p2 d W V1.1 V1.2 V2.1 V2.2 HPV.out.1 HPV.out.2 (Lib.hid hd))
      have ED := Lib.hid (ED.out.trans hd)
      rw [Nat.zero_add] at c1 c2 c3 c4
      have E1 := fun n os => cell_grown (n := n) (os := os) gl c1
      have E2 := fun n os => cell_grown (n := n) (os := os) gl c2
      have E3 := fun n os => cell_grown (n := n) (os := os) gl c3
      have E4 := fun n os => cell_grown (n := n) (os := os) gl c4
      have h2' : (2 : Int) ≤ (n : Int) := by omega
      have hil' : (i : Int) < (st.length : Int) := by omega
      have hwi : IntKind.i64.wrap (i : Int) = (i : Int) := wrap_k _ (by omega)
      have hwj : IntKind.i64.wrap (j : Int) = (j : Int) := wrap_k _ (by omega)
      have hjl' : (j : Int) < (st.length : Int) := by omega
      clear V1 V2 hd c1 c2 c3 c4 HP2
      have HII := Lib.hid (And.intro hi2 hj1)
      by_cases hs : d ≤ 0
      · go_wp2_with fail
        refine wq_region mixedP (by kernel_rfl) ?_
        repeat (refine wq_step (fun K hK => ?_); go_simp; first | (refine hK _ ?_; clear hK K) | (apply Exists.intro; refine ⟨fun _ => ?_, hK _ ?_⟩; (first | (go_at_call 75; refine Calls.grown_of (C.out _))); clear hK K))
        refine wq_nil ?_
        intro _ hw'
        obtain ⟨⟨nq, osq⟩, hw''⟩ := hw'
        subst hw''
        go_wp2
        go_roundw
        case rel => exact ⟨j, by omega, by go_num, by
          rw [← HPOP.out, pop_take h2 hn (by rw [ED.out]; exact hs), show n - 1 = j by have := HII.out.2; omega], HB.out.trans ((below_gr _ _ _).mono HB.out.size)⟩
        case measure => have := HII.out.2; simp [intOf]; omega
      · have HST := Lib.hid (pop_stop h2 hn (by rw [ED.out]; exact hs))
        go_wp2_with fail
        refine wq_region mixedP (by kernel_rfl) ?_
        repeat (refine wq_step (fun K hK => ?_); go_simp; first | (refine hK _ ?_; clear hK K) | (apply Exists.intro; refine ⟨fun _ => ?_, hK _ ?_⟩; (first | (go_at_call 75; refine Calls.grown_of (C.out _))); clear hK K))
        refine wq_nil ?_
        intro _ hw'
        obtain ⟨⟨nq, osq⟩, hw''⟩ := hw'
        subst hw''
        clear E1 E2 E3 E4 C
        have HB3 := Lib.hid (hB1.out.trans ((HB.out.trans ((below_gr wr nq osq).mono HB.out.size)).mono (by omega)))
        have HS3 := Lib.hid (boxed_below HBS.out (below_gr wr nq osq))
        have HO3 := Lib.hid (own_take (own_bel HO2.out (below_gr wr nq osq)) n hn)
        have x0 := (below_gr wr nq osq).cell (p := ⟨zp, 0, none⟩) zl |>.trans y0
        have x1 := (below_gr wr nq osq).cell (p := ⟨zp, 1, none⟩) zl |>.trans y1
        have xS := HS3.out.cell
        have HU : Hid (us = st.take n ++ [(p1, p2)]) := Lib.hid (by
          rw [hu.out]; unfold pushS; rw [← HPOP.out, HST.out, List.reverse_cons, List.reverse_reverse])
        have hnm : min n st.length = n := Nat.min_eq_left hn
        have hnc : n ≤ cap := by omega
        have hnc' : (n : Int) ≤ (cap : Int) := by omega
        clear y0 y1 yS G0 G1 GS
        generalize Sort.grow (wr.drewN nq) osq = w3 at *
        go_wp2_with fail
        obtain ⟨sp, hsp⟩ : ∃ sp : Told, sp = [none, none, none, none, none, none, none, none, none, none, none, none, none, none, none, none, none, none, none, none, none, none, none, none, none, some (.inl (.slice (some ⟨g, 0, none⟩) st.length cap)), some (.inl (.int .i64 (n : Int))), some (.inl (.slice (some ⟨g, 0, none⟩) n cap)), some (.inl (.agg #[.int .i64 p1, .int .i64 p2])), some (.inr [(p1, p2)]), none] := ⟨_, rfl⟩
        have s25 : sp.getD 25 none = some (.inl (.slice (some ⟨g, 0, none⟩) st.length cap)) := by rw [hsp]; rfl
        have s26 : sp.getD 26 none = some (.inl (.int .i64 (n : Int))) := by rw [hsp]; rfl
        have s27 : sp.getD 27 none = some (.inl (.slice (some ⟨g, 0, none⟩) n cap)) := by rw [hsp]; rfl
        have s28 : sp.getD 28 none = some (.inl (.agg #[.int .i64 p1, .int .i64 p2])) := by rw [hsp]; rfl
        have s29 : sp.getD 29 none = some (.inr [(p1, p2)]) := by rw [hsp]; rfl
        clear hsp
        refine (wpIn_wide (n := 0)).1 (region_headM sp 5 rfl rfl rfl (by kernel_rfl) (by decide) (by kernel_rfl) (by kernel_rfl) (by kernel_rfl) ?_ ?_)
        · intro Q'; show ObsM _ _ _ _ _ _ _ _ (List.take _ _); simp only [List.take_succ_cons, List.take_zero]
          refine obsM_cons ?_ ?_
          · intro T wx K hB hF hD hK
            have g1 : T[1]? = some (.pointer (some ⟨Bs, 0, none⟩)) := hF 1 (freeM_of (by kernel_rfl))
            refine ob_yes (wanted_none rfl) ?_
            clear hF hD
            have c0 := cell_call xS hB
            go_simp
            exact hK _ _ (Below.refl _ _) (rt_eq s25)
          refine obsM_cons ?_ ?_
          · intro T wx K hB hF hD hK
            have g3 : T[3]? = some (.int .i64 (n : Int)) := hF 3 (freeM_of (by kernel_rfl))
            refine ob_yes (wanted_none rfl) ?_
            clear hF hD
            go_simp
            exact hK _ _ (Below.refl _ _) (rt_eq s26)
          refine obsM_cons ?_ ?_
          · intro T wx K hB hF hD hK
            have g25 := get_eq (hD 0 25 (by simp [Region.binds]) (by kernel_rfl)) s25
            have g26 := get_eq (hD 1 26 (by simp [Region.binds]) (by kernel_rfl)) s26
            refine ob_yes (wanted_none rfl) ?_
            clear hF hD
            go_simp
            exact hK _ _ (Below.refl _ _) (rt_eq s27)
          refine obsM_cons ?_ ?_
          · intro T wx K hB hF hD hK
            have g2 : T[2]? = some (.pointer (some ⟨zp, 0, none⟩)) := hF 2 (freeM_of (by kernel_rfl))
            refine ob_yes (wanted_none rfl) ?_
            clear hF hD
            have c0 := cell_call x0 hB
            have c1 := cell_call x1 hB
            go_simp
            exact hK _ _ (Below.refl _ _) (rt_eq s28)
          refine obsM_cons ?_ ?_
          · intro T wx K hB hF hD hK
            have g28 := get_eq (hD 3 28 (by simp [Region.binds]) (by kernel_rfl)) s28
            refine ob_yes (wanted_none rfl) ?_
            clear hF hD
            go_simp
            exact hK _ _ (belA (Below.refl _ _) _) (rt_row s29 rfl (prow_one (cbx _ _ _ _ 0 _ rfl rfl) (cbx _ _ _ _ 1 _ rfl rfl)))
          exact obsM_nil
        · intro T w8 hb hF hs hD
          have g25 := get_eq (hD 0 25 (by decide) (by kernel_rfl)) s25
          have g26 := get_eq (hD 1 26 (by decide) (by kernel_rfl)) s26
          have g27 := get_eq (hD 2 27 (by decide) (by kernel_rfl)) s27
          have g28 := get_eq (hD 3 28 (by decide) (by kernel_rfl)) s28
          obtain ⟨bn, cn, g29, pn⟩ := get_row (hD 4 29 (by decide) (by kernel_rfl)) s29
          have hT := conc [(25, .slice (some ⟨g, 0, none⟩) st.length cap), (26, .int .i64 (n : Int)), (27, .slice (some ⟨g, 0, none⟩) n cap), (28, .agg #[.int .i64 p1, .int .i64 p2]), (29, .slice (some ⟨bn, 0, none⟩) 1 cn)] hs hF (by simp only [List.forall_mem_cons]; exact ⟨g25, g26, g27, g28, g29, fun p hp => absurd hp List.not_mem_nil⟩) (by kernel_rfl)
          simp only [List.foldl, List.setIfInBounds_toArray, List.set_cons_succ, List.set_cons_zero] at hT
          subst hT
          clear hF hD hs g25 g26 g27 g28 g29 s25 s26 s27 s28 s29
          have hs8 := hb.size
          have HB8 := Lib.hid (HB3.out.trans (hb.mono (by have := HB3.out.size; have := HZ.out; omega)))
          have HS8 := boxed_below HS3.out hb
          have HO8 := own_bel HO3.out hb
          have z8 : base ≤ w8.heap.size := by have := HS8.lt; omega
          clear hb x0 x1 xS
          show wpOpsIn _ _ _ _ _ [5, 6] _ _
          refine tail_append rfl rfl rfl rfl rfl (.tmp 27) (.tmp 29) 29 rfl base 23 i0 (.agg #[.int .i64 0, .int .i64 0]) 2 16 Tryz.underlying29 hi hz0 hz1' hz2 rfl (by decide) _ _ _ rfl HO8 ⟨bn, 0, none⟩ 1 cn [.int .i64 p1, .int .i64 p2] rfl rfl (row_news pn) (by intro u hu; simp at hu; rcases hu with rfl | rfl <;> rfl) (by decide) (by unfold maxLen; omega) (by omega) (by omega) ?_
          intro g' cap' w9 hown' hgrow hat hlt
          have HN := Lib.hid (HS8.not_row (by decide) HO8)
          have hv1 := HS8.kept hgrow HN.out
          have hc1 := hv1.cell
          have hf1 := hv1.frozen
          have HB9 : Hid (Below base w w9) := Lib.hid ((HB8.out.mono hb0').grown hgrow z8 (fun k e => (HO8.lt k e).1))
          have HW := Lib.hid hv1
          have HWN := Lib.hid (hv1.not_row (by decide) hown')
          have HOW := Lib.hid hown'
          clear hgrow hown' hv1
          simp only [wpOpsIn]
          go_simp
          go_wp2
          go_end0
          refine ⟨rfl, ⟨_, HW.out.set _, ?_, fun h => by cases h⟩, HB9.out.setCell (p := ⟨Bs, 0, none⟩) hb0 _⟩
          have := HOW.out.kept (grownBy_setCell' w9 Bs (.slice (some ⟨g', 0, none⟩) (n + 1) cap')) (.inr HWN.out.symm)
          rw [HU.out, flat_app, show flat [(p1, p2)] = [.int .i64 p1, .int .i64 p2] from rfl]
          simpa [List.length_take, hnm] using this
    · have h2' : decide ((2 : Int) ≤ (n : Int)) = false := decide_eq_false (by omega)
      have HST := Lib.hid (pop_short (p := (p1, p2)) (st := st) (show n < 2 by omega))
      go_wp2_with fail
      refine wq_region mixedP (by kernel_rfl) ?_
      repeat (refine wq_step (fun K hK => ?_); go_simp; first | (refine hK _ ?_; clear hK K) | (apply Exists.intro; refine ⟨fun _ => ?_, hK _ ?_⟩; (fail); clear hK K))
      refine wq_nil ?_
      intro _ hw'
      obtain ⟨⟨nq, osq⟩, hw''⟩ := hw'
      subst hw''
      have HB3 := Lib.hid (hB1.out.trans ((HB.out.trans ((below_gr wr nq osq).mono HB.out.size)).mono (by omega)))
      have HS3 := Lib.hid (boxed_below HBS.out (below_gr wr nq osq))
      have HO3 := Lib.hid (own_take (own_bel HO2.out (below_gr wr nq osq)) n hn)
      have x0 := (below_gr wr nq osq).cell (p := ⟨zp, 0, none⟩) zl |>.trans y0
      have x1 := (below_gr wr nq osq).cell (p := ⟨zp, 1, none⟩) zl |>.trans y1
      have xS := HS3.out.cell
      have HU : Hid (us = st.take n ++ [(p1, p2)]) := Lib.hid (by
        rw [hu.out]; unfold pushS; rw [← HPOP.out, HST.out, List.reverse_cons, List.reverse_reverse])
      have hnm : min n st.length = n := Nat.min_eq_left hn
      have hnc : n ≤ cap := by omega
      have hnc' : (n : Int) ≤ (cap : Int) := by omega
      clear y0 y1 yS G0 G1 GS
      generalize Sort.grow (wr.drewN nq) osq = w3 at *
      go_wp2_with fail
      obtain ⟨sp, hsp⟩ : ∃ sp : Told, sp = [none, none, none, none, none, none, none, none, none, none, none, none, none, none, none, none, none, none, none, none, none, none, none, none, none, some (.inl (.slice (some ⟨g, 0, none⟩) st.length cap)), some (.inl (.int .i64 (n : Int))), some (.inl (.slice (some ⟨g, 0, none⟩) n cap)), some (.inl (.agg #[.int .i64 p1, .int .i64 p2])), some (.inr [(p1, p2)]), none] := ⟨_, rfl⟩
      have s25 : sp.getD 25 none = some (.inl (.slice (some ⟨g, 0, none⟩) st.length cap)) := by rw [hsp]; rfl
      have s26 : sp.getD 26 none = some (.inl (.int .i64 (n : Int))) := by rw [hsp]; rfl
      have s27 : sp.getD 27 none = some (.inl (.slice (some ⟨g, 0, none⟩) n cap)) := by rw [hsp]; rfl
      have s28 : sp.getD 28 none = some (.inl (.agg #[.int .i64 p1, .int .i64 p2])) := by rw [hsp]; rfl
      have s29 : sp.getD 29 none = some (.inr [(p1, p2)]) := by rw [hsp]; rfl
      clear hsp
      refine (wpIn_wide (n := 0)).1 (region_headM sp 5 rfl rfl rfl (by kernel_rfl) (by decide) (by kernel_rfl) (by kernel_rfl) (by kernel_rfl) ?_ ?_)
      · intro Q'; show ObsM _ _ _ _ _ _ _ _ (List.take _ _); simp only [List.take_succ_cons, List.take_zero]
        refine obsM_cons ?_ ?_
        · intro T wx K hB hF hD hK
          have g1 : T[1]? = some (.pointer (some ⟨Bs, 0, none⟩)) := hF 1 (freeM_of (by kernel_rfl))
          refine ob_yes (wanted_none rfl) ?_
          clear hF hD
          have c0 := cell_call xS hB
          go_simp
          exact hK _ _ (Below.refl _ _) (rt_eq s25)
        refine obsM_cons ?_ ?_
        · intro T wx K hB hF hD hK
          have g3 : T[3]? = some (.int .i64 (n : Int)) := hF 3 (freeM_of (by kernel_rfl))
          refine ob_yes (wanted_none rfl) ?_
          clear hF hD
          go_simp
          exact hK _ _ (Below.refl _ _) (rt_eq s26)
        refine obsM_cons ?_ ?_
        · intro T wx K hB hF hD hK
          have g25 := get_eq (hD 0 25 (by simp [Region.binds]) (by kernel_rfl)) s25
          have g26 := get_eq (hD 1 26 (by simp [Region.binds]) (by kernel_rfl)) s26
          refine ob_yes (wanted_none rfl) ?_
          clear hF hD
          go_simp
          exact hK _ _ (Below.refl _ _) (rt_eq s27)
        refine obsM_cons ?_ ?_
        · intro T wx K hB hF hD hK
          have g2 : T[2]? = some (.pointer (some ⟨zp, 0, none⟩)) := hF 2 (freeM_of (by kernel_rfl))
          refine ob_yes (wanted_none rfl) ?_
          clear hF hD
          have c0 := cell_call x0 hB
          have c1 := cell_call x1 hB
          go_simp
          exact hK _ _ (Below.refl _ _) (rt_eq s28)
        refine obsM_cons ?_ ?_
        · intro T wx K hB hF hD hK
          have g28 := get_eq (hD 3 28 (by simp [Region.binds]) (by kernel_rfl)) s28
          refine ob_yes (wanted_none rfl) ?_
          clear hF hD
          go_simp
          exact hK _ _ (belA (Below.refl _ _) _) (rt_row s29 rfl (prow_one (cbx _ _ _ _ 0 _ rfl rfl) (cbx _ _ _ _ 1 _ rfl rfl)))
        exact obsM_nil
      · intro T w8 hb hF hs hD
        have g25 := get_eq (hD 0 25 (by decide) (by kernel_rfl)) s25
        have g26 := get_eq (hD 1 26 (by decide) (by kernel_rfl)) s26
        have g27 := get_eq (hD 2 27 (by decide) (by kernel_rfl)) s27
        have g28 := get_eq (hD 3 28 (by decide) (by kernel_rfl)) s28
        obtain ⟨bn, cn, g29, pn⟩ := get_row (hD 4 29 (by decide) (by kernel_rfl)) s29
        have hT := conc [(25, .slice (some ⟨g, 0, none⟩) st.length cap), (26, .int .i64 (n : Int)), (27, .slice (some ⟨g, 0, none⟩) n cap), (28, .agg #[.int .i64 p1, .int .i64 p2]), (29, .slice (some ⟨bn, 0, none⟩) 1 cn)] hs hF (by simp only [List.forall_mem_cons]; exact ⟨g25, g26, g27, g28, g29, fun p hp => absurd hp List.not_mem_nil⟩) (by kernel_rfl)
        simp only [List.foldl, List.setIfInBounds_toArray, List.set_cons_succ, List.set_cons_zero] at hT
        subst hT
        clear hF hD hs g25 g26 g27 g28 g29 s25 s26 s27 s28 s29
        have hs8 := hb.size
        have HB8 := Lib.hid (HB3.out.trans (hb.mono (by have := HB3.out.size; have := HZ.out; omega)))
        have HS8 := boxed_below HS3.out hb
        have HO8 := own_bel HO3.out hb
        have z8 : base ≤ w8.heap.size := by have := HS8.lt; omega
        clear hb x0 x1 xS
        show wpOpsIn _ _ _ _ _ [5, 6] _ _
        refine tail_append rfl rfl rfl rfl rfl (.tmp 27) (.tmp 29) 29 rfl base 23 i0 (.agg #[.int .i64 0, .int .i64 0]) 2 16 Tryz.underlying29 hi hz0 hz1' hz2 rfl (by decide) _ _ _ rfl HO8 ⟨bn, 0, none⟩ 1 cn [.int .i64 p1, .int .i64 p2] rfl rfl (row_news pn) (by intro u hu; simp at hu; rcases hu with rfl | rfl <;> rfl) (by decide) (by unfold maxLen; omega) (by omega) (by omega) ?_
        intro g' cap' w9 hown' hgrow hat hlt
        have HN := Lib.hid (HS8.not_row (by decide) HO8)
        have hv1 := HS8.kept hgrow HN.out
        have hc1 := hv1.cell
        have hf1 := hv1.frozen
        have HB9 : Hid (Below base w w9) := Lib.hid ((HB8.out.mono hb0').grown hgrow z8 (fun k e => (HO8.lt k e).1))
        have HW := Lib.hid hv1
        have HWN := Lib.hid (hv1.not_row (by decide) hown')
        have HOW := Lib.hid hown'
        clear hgrow hown' hv1
        simp only [wpOpsIn]
        go_simp
        go_wp2
        go_end0
        refine ⟨rfl, ⟨_, HW.out.set _, ?_, fun h => by cases h⟩, HB9.out.setCell (p := ⟨Bs, 0, none⟩) hb0 _⟩
        have := HOW.out.kept (grownBy_setCell' w9 Bs (.slice (some ⟨g', 0, none⟩) (n + 1) cap')) (.inr HWN.out.symm)
        rw [HU.out, flat_app, show flat [(p1, p2)] = [.int .i64 p1, .int .i64 p2] from rfl]
        simpa [List.length_take, hnm] using this

end Go.Proofs.YtalhkcmlacppjaaGreatDoor

