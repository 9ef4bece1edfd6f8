/- Contracts of hull.clipEars and hull.Decompose. Condition: the slice reads as the list says; the coordinates are bounded. -/
import Derived.Test.YtnpadblfpaiofaaHlK
import Derived.Test.YtnpadblfpaiofaaHlH
namespace Go.Proofs.Ytnpadblfpaiofaa
open Go.ChangeShapes Go.WideShapes Go.ChangeAt Go.RowKit
set_option linter.unusedVariables false
set_option linter.unusedSimpArgs false

/-- What clipEars gives. -/
def clipF : Nat → List (Int × Int) → List (List (Int × Int)) → List (List (Int × Int))
  | 0, _, _ => []
  | f + 1, rest, parts => if 3 < rest.length then (match firstE rest with | none => [] | some e => clipF f (rest.eraseIdx e) (parts ++ [triP rest e])) else if rest.length < 3 then [] else parts ++ [triP rest 1]
def clipL (ps : List (Int × Int)) : List (List (Int × Int)) := clipF (ps.length + 1) ps []
def decL (ps : List (Int × Int)) : List (List (Int × Int)) := if convB ps then [ps] else clipL ps

theorem infoS : (Try.prog.info? 23).map (fun i => (i.zero, i.size, i.bytes)) = some (some (.slice none 0 0), 1, 24) := by kernel_rfl
/-- Lists of points, one behind the other, as a slice of slices reads them. -/
def PRows (w : World) (bo : Option Addr) (pss : List (List (Int × Int))) : Prop := ∀ i, i < pss.length → ∃ b o ao c, bo = some ⟨b, o, none⟩ ∧ w.cell? ⟨b, o + i, none⟩ = some (.slice ao (pss.getD i []).length c) ∧ PRow w ao (pss.getD i [])
theorem prows_below {w w' : World} {bo : Option Addr} {pss : List (List (Int × Int))} (h : PRows w bo pss) (hb : Below w.heap.size w w') : PRows w' bo pss := fun i hi => by
  obtain ⟨b, o, ao, c, h1, h2, h3⟩ := h i hi
  exact ⟨b, o, ao, c, h1, (hb.cell (World.block_lt_of_cell? w _ h2)).trans h2, prow_below h3 hb⟩
theorem prows_alloc {w : World} {bo : Option Addr} {pss : List (List (Int × Int))} (h : PRows w bo pss) (x : Obj) : PRows (w.alloc x) bo pss := prows_below h (belA (Below.refl _ _) x)

/-- The parts that are made so far: a slice of the call's own, each part a triangle in a block of its own. -/
def trV (b : Nat) : Value := .slice (some ⟨b, 0, none⟩) 3 3
def PartsAt (w : World) (base : Nat) (v : Value) (pss : List (List (Int × Int))) : Prop := ∃ bs : List Nat, bs.length = pss.length ∧ w.ownsRow base 23 1 v pss.length (bs.map trV) ∧
  ∀ i, i < pss.length → base ≤ bs.getD i 0 ∧ w.heap[bs.getD i 0]? = some (.cells (six (pss.getD i [])) 35 (0, 0)) ∧ (pss.getD i []).length = 3
theorem partsAt_nil (w : World) (base : Nat) : PartsAt w base (.slice none 0 0) [] := ⟨[], rfl, ⟨rfl, .inl ⟨rfl, rfl⟩⟩, fun i hi => by simp at hi⟩
theorem own_blk {w : World} {base : Nat} {v : Value} {n : Nat} {xs : List Value} {e : TypeId} {s : Nat} (h : w.ownsRow base e s v n xs) {k : Nat} (hk : v.ownBlock = some k) : base ≤ k ∧ ∃ cur, w.heap[k]? = some (.cells cur e (0, 0)) := by
  rcases h.2 with ⟨rfl, _⟩ | ⟨g, cap, cur, rfl, h1, h2, _⟩
  · cases hk
  · have : g = k := by simpa [Value.ownBlock] using hk
    subst this
    exact ⟨h1, cur, h2⟩
theorem partsAt_grown {w w' : World} {base : Nat} {v : Value} {pss : List (List (Int × Int))} (h : PartsAt w base v pss) {row : Option Nat} (hg : w.grownBy w' row) (hr : ∀ k, row = some k → k < base) : PartsAt w' base v pss := by
  obtain ⟨bs, h1, h2, h3⟩ := h
  refine ⟨bs, h1, h2.kept hg ?_, fun i hi => ?_⟩
  · rcases hv : v.ownBlock with _ | k
    · exact .inl rfl
    · right
      intro e
      have := (own_blk h2 hv).1
      have := hr k e.symm
      omega
  · obtain ⟨a, b, c⟩ := h3 i hi
    refine ⟨a, (hg.block _ (blk_lt b) fun e => ?_).trans b, c⟩
    have := hr _ e.symm
    omega
theorem getD_snoc {α : Type} (l : List α) (x d : α) (i : Nat) : (l ++ [x]).getD i d = if i < l.length then l.getD i d else if i = l.length then x else d := by
  rw [List.getD_eq_getElem?_getD, List.getD_eq_getElem?_getD]
  split
  · rename_i h
    rw [List.getElem?_append_left h]
  · rename_i h
    split
    · rename_i h2
      subst h2
      simp
    · rename_i h2
      rw [List.getElem?_eq_none (by simp; omega)]
      rfl
/-- A triangle more. -/
theorem partsAt_snoc {w w1 : World} {base : Nat} {v v' : Value} {pss : List (List (Int × Int))} {t : List (Int × Int)} {b : Nat} {bs : List Nat} (h1 : bs.length = pss.length) (h2 : w.ownsRow base 23 1 v pss.length (bs.map trV))
    (h4 : ∀ i, i < pss.length → base ≤ bs.getD i 0 ∧ w.heap[bs.getD i 0]? = some (.cells (six (pss.getD i [])) 35 (0, 0)) ∧ (pss.getD i []).length = 3) (hb : base ≤ b) (hbl : w.heap[b]? = some (.cells (six t) 35 (0, 0))) (h3 : t.length = 3)
    (hg : w.grownBy w1 v.ownBlock) (hown : w1.ownsRow base 23 1 v' (pss.length + 1) (bs.map trV ++ [trV b])) : PartsAt w1 base v' (pss ++ [t]) := by
  have other : ∀ (k : Nat) (o : Array Value), w.heap[k]? = some (.cells o 35 (0, 0)) → some k ≠ v.ownBlock := fun k o hk e => by
    obtain ⟨_, cur, hc⟩ := own_blk h2 e.symm
    rw [hk] at hc
    cases hc
  refine ⟨bs ++ [b], by simp [h1], by rw [List.map_append, List.length_append]; exact hown, fun i hi => ?_⟩
  rw [getD_snoc, getD_snoc, h1]
  rw [List.length_append] at hi
  simp only [List.length_cons, List.length_nil] at hi
  by_cases k : i < pss.length
  · rw [if_pos k, if_pos k]
    obtain ⟨a, c, d⟩ := h4 i k
    exact ⟨a, (hg.block _ (blk_lt c) (other _ _ c)).trans c, d⟩
  · have e : i = pss.length := by omega
    rw [if_neg k, if_neg k, if_pos e, if_pos e]
    exact ⟨hb, (hg.block _ (blk_lt hbl) (other _ _ hbl)).trans hbl, h3⟩
theorem grown_trans {w a b : World} {g : Nat} {row : Option Nat} (h : w.grownBy a (some g)) (k : a.grownBy b row) (hr : ∀ k, row = some k → k = g ∨ w.heap.size ≤ k) : w.grownBy b (some g) :=
  ⟨k.os.trans h.os, k.tape.trans h.tape, k.output.trans h.output, Nat.le_trans h.size k.size, fun j hj hne => (k.block j (Nat.lt_of_lt_of_le hj h.size) (fun e => by
    rcases hr j e.symm with r | r
    · exact hne (by rw [r])
    · omega)).trans (h.block j hj hne)⟩
theorem six_row {w : World} {b : Nat} {t : List (Int × Int)} (h : w.heap[b]? = some (.cells (six t) 35 (0, 0))) (h3 : t.length = 3) : PRow w (some ⟨b, 0, none⟩) t := fun i hi => by
  rw [h3] at hi
  match i, hi with
  | 0, _ => exact ⟨b, 0, rfl, blk_cell h 0 _ rfl, blk_cell h 1 _ rfl⟩
  | 1, _ => exact ⟨b, 0, rfl, blk_cell h 2 _ rfl, blk_cell h 3 _ rfl⟩
  | 2, _ => exact ⟨b, 0, rfl, blk_cell h 4 _ rfl, blk_cell h 5 _ rfl⟩
theorem PartsAt.rows {w : World} {base : Nat} {v : Value} {pss : List (List (Int × Int))} (h : PartsAt w base v pss) : ∃ bo c, v = .slice bo pss.length c ∧ PRows w bo pss := by
  obtain ⟨bs, h1, h2, h3⟩ := h
  have h0 := h2
  rcases h2.2 with ⟨rfl, hn⟩ | ⟨g, cap, cur, rfl, k1, k2, k3, k4, k5, k6⟩
  · exact ⟨none, 0, by rw [hn], fun i hi => by omega⟩
  · refine ⟨_, cap, rfl, fun i hi => ?_⟩
    obtain ⟨a, b, c⟩ := h3 i hi
    refine ⟨g, 0, some ⟨bs.getD i 0, 0, none⟩, 3, rfl, ?_, six_row b c⟩
    rw [Nat.zero_add, h0.cellAt i (by omega), List.getElem?_map, c]
    have : bs[i]? = some (bs.getD i 0) := by rw [List.getD_eq_getElem?_getD, List.getElem?_eq_getElem (by omega)]; rfl
    rw [this]
    rfl
theorem holdsK_grown {w w' : World} {g : Nat} {l : List (Int × Int)} (h : Sort.HoldsK encP 2 w g 0 l.toArray) (hl : g < w.heap.size) {row : Option Nat} (hg : w.grownBy w' row) (hr : some g ≠ row) : Sort.HoldsK encP 2 w' g 0 l.toArray := by
  have hb := hg.block g hl hr
  refine (holdsP_iff w' g l).2 fun i hi => ?_
  obtain ⟨a, b, c, d⟩ := (holdsP_iff w g l).1 h i hi
  exact ⟨(World.cell?_of_block (w := w) hb).trans a, (World.cell?_of_block (w := w) hb).trans b, (World.frozen?_of_block (w := w) hb).trans c, (World.frozen?_of_block (w := w) hb).trans d⟩
theorem holds_row {w : World} {g : Nat} {l : List (Int × Int)} (h : Sort.HoldsK encP 2 w g 0 l.toArray) : PRow w (some ⟨g, 0, none⟩) l := fun i hi => by
  obtain ⟨a, b, _, _⟩ := (holdsP_iff w g l).1 h i hi
  exact ⟨g, 0, rfl, by rw [Nat.zero_add]; exact a, by rw [Nat.zero_add]; exact b⟩
theorem triAt_at (ao : Option Addr) (n cap i : Nat) (I : Int) (ps : List (Int × Int)) (w : World) (hI : I = (i : Int)) (hn : ps.length = n) (hi : i < n) (hle : n ≤ 1000000) (hP : PRow w ao ps) :
    Calls Try.prog 67 #[.slice ao n cap, .int .i64 I] w fun e w' => e = .returned (.slice (some ⟨w.heap.size, 0, none⟩) 3 3) ∧ w' = w.drew.alloc (.cells (six (triP ps i)) 35) := by
  subst hI; exact triAt_is ao n cap i ps w hn hi hle hP
def lenV (v : Value) : Nat := match v with | .slice _ n _ => n | _ => 0
theorem erase_allV {ps : List (Int × Int)} (h : AllV ps) (e : Nat) : AllV (ps.eraseIdx e) := (allV_iff _).2 fun q hq => (allV_iff ps).1 h q (List.mem_of_mem_eraseIdx hq)

set_option maxRecDepth 100000 in
set_option maxHeartbeats 1000000 in
theorem clipEars_is (g cap n : Nat) (ps : List (Int × Int)) (w : World) (hn : ps.length = n) (hle : n ≤ 1000) (hcap : n ≤ cap) (hcm : cap ≤ maxLen) (hg : g < w.heap.size) (hH : Sort.HoldsK encP 2 w g 0 ps.toArray) (hV : AllV ps) :
    Calls Try.prog 51 #[.slice (some ⟨g, 0, none⟩) n cap] w fun e w' => (∃ v, e = .returned v ∧ PartsAt w' w.heap.size v (clipL ps)) ∧ w.grownBy w' (some g) := by
  subst hn
  obtain ⟨i0, hi0, hz0, hz1', hz2⟩ := info_parts infoS
  have HH := Lib.hid hH
  have HV := Lib.hid hV
  clear hH hV
  go_enter Try.func51, Try.ntmps51
  go_wp2
  go_loopw [0, 3] (fun s0 s3 wr => ∃ (rest : List (Int × Int)) (parts : List (List (Int × Int))), s0 = .slice (some ⟨g, 0, none⟩) rest.length cap ∧ Sort.HoldsK encP 2 wr g 0 rest.toArray ∧ PartsAt wr w.heap.size s3 parts ∧ clipF (rest.length + 1) rest parts = clipL ps ∧ parts.length + rest.length = ps.length ∧ AllV rest ∧ w.grownBy wr (some g)) (fun s0 _ _ => lenV s0)
  case atStart => exact ⟨ps, [], rfl, HH.out, partsAt_nil _ _, rfl, by simp, HV.out, ⟨rfl, rfl, rfl, Nat.le_refl _, fun k _ _ => rfl⟩⟩
  case round =>
    obtain ⟨rest, parts, rfl, hH1, hPt, hcl, hlen, hV1, hgr⟩ := hrel
    have HH1 := Lib.hid hH1
    have HPT := Lib.hid hPt
    have HCL := Lib.hid hcl
    have HV1 := Lib.hid hV1
    have HGR := Lib.hid hgr
    have gl : g < wr.heap.size := Nat.lt_of_lt_of_le hg hgr.size
    have zl : w.heap.size ≤ wr.heap.size := hgr.size
    clear hH1 hPt hcl hV1 hgr
    by_cases h3 : 3 < rest.length
    · have h3' : (3 : Int) < rest.length := by omega
      go_wp2_with fail
      refine (firstEar_is (some ⟨g, 0, none⟩) rest.length cap rest wr rfl (by omega) (holds_row HH1.out) HV1.out).mono ?_
      rintro e w1 ⟨⟨i, hil, hfe, rfl⟩ | ⟨hfe, rfl⟩, hb⟩
      · have HFE := Lib.hid hfe
        have HB := Lib.hid hb
        clear hfe hb
        have hH2 := Lib.hid (holdsK_grown HH1.out gl (grown_of_below HB.out) (by simp))
        have hP2 := Lib.hid (partsAt_grown HPT.out (grown_of_below HB.out) (fun k h => by cases h))
        have z1 := HB.out.size
        go_wp2_with fail
        refine (triAt_is (some ⟨g, 0, none⟩) rest.length cap i rest w1 rfl hil (by omega) (holds_row hH2.out)).mono ?_
        rintro e w2 ⟨rfl, hw2⟩
        have hbl : w2.heap[w1.heap.size]? = some (.cells (six (triP rest i)) 35 (0, 0)) := by rw [hw2]; exact blk_new _ _ _ rfl
        have hB2 : Below w1.heap.size w1 w2 := by rw [hw2]; exact belA (Below.refl _ w1).drew _
        clear hw2
        have hH3 := Lib.hid (holdsK_grown hH2.out (by omega) (grown_of_below hB2) (by simp))
        have hP3 := Lib.hid (partsAt_grown hP2.out (grown_of_below hB2) (fun k h => by cases h))
        have z2 := hB2.size
        have HB2 := Lib.hid hB2
        have HBL := Lib.hid hbl
        clear hB2 hbl
        obtain ⟨ob, hob⟩ : ∃ ob, Obj.cells #[.slice (some ⟨w1.heap.size, 0, none⟩) 3 3] 23 = ob := ⟨_, rfl⟩
        obtain ⟨bs, hbs1, hbs2, hbs3⟩ := partsAt_grown hP3.out (World.grownBy_alloc w2 ob none) (fun k h => by cases h)
        have hH4 := Lib.hid (holdsK_grown hH3.out (by omega) (World.grownBy_alloc w2 ob none) (by simp))
        have HBL4 := Lib.hid (blk_alloc HBL.out ob)
        have EBS := Lib.hid (And.intro hbs1 hbs3)
        have HOW := Lib.hid hbs2
        subst hob
        clear hbs1 hbs3
        go_wp2_with (at_builtin; refine wpList_append_own _ rfl _ _ 31 rfl w.heap.size 23 i0 (.slice none 0 0) 1 24 Try.underlying31 hi0 hz0 hz1' hz2 rfl (by decide) _ _ _ rfl hbs2 ⟨w2.heap.size, 0, none⟩ 1 1 [trV w1.heap.size] rfl rfl ?c1 ?c2 ?c3 ?c4 ?c5 ?_)
        case c1 =>
          intro j u hj
          match j, hj with
          | 0, hj => simp at hj; subst hj; exact cbx' _ _ _ _ 0 _ rfl rfl
        case c2 => intro u hu; simp at hu; subst hu; rfl
        case c3 => unfold maxLen; omega
        case c4 => omega
        case c5 => simp; omega
        intro v' w3 hown' hgrow _
        have P5 := Lib.hid (partsAt_snoc EBS.out.1 HOW.out EBS.out.2 (show w.heap.size ≤ w1.heap.size by omega) HBL4.out (show (triP rest i).length = 3 from rfl) hgrow hown')
        have HG5 := Lib.hid (grown_trans (grown_trans (grown_trans (grown_trans HGR.out (grown_of_below HB.out) (fun k h => by cases h)) (grown_of_below HB2.out) (fun k h => by cases h)) (World.grownBy_alloc w2 _ none) (fun k h => by cases h)) hgrow (fun k h => .inr (own_blk HOW.out h).1))
        have hH5 := Lib.hid (holdsK_grown hH4.out (by simp; omega) hgrow (fun e => by have := (own_blk HOW.out e.symm).1; omega))
        have g5 : g < w3.heap.size := by have := hgrow.size; simp at this; omega
        clear hown' hgrow hbs2
        obtain ⟨j, hj⟩ : ∃ j : Nat, i + 1 = j := ⟨_, rfl⟩
        have hj' : (i : Int) + 1 = (j : Int) := by omega
        have hwj : IntKind.i64.wrap (j : Int) = (j : Int) := wrap_k _ (by omega)
        have DEL := Lib.hid (delete_is g cap i j rest.length rest w3 rfl hil hj.symm (by omega) hcm (by omega) hH5.out g5)
        go_wp2_with fail
        refine DEL.out.mono ?_
        rintro e w4 ⟨rfl, hH6, hg6⟩
        have P6 := Lib.hid (partsAt_grown P5.out hg6 (fun k h => by cases h; exact hg))
        have HG6 := Lib.hid (grown_trans HG5.out hg6 (fun k h => by cases h; exact .inl rfl))
        have HH6 := Lib.hid hH6
        clear hH6 hg6
        go_wp2
        go_roundw
        case rel =>
          have el : (rest.eraseIdx i).length = rest.length - 1 := List.length_eraseIdx_of_lt hil
          refine ⟨rest.eraseIdx i, parts ++ [triP rest i], by rw [el], HH6.out, P6.out, ?_, ?_, erase_allV HV1.out i, HG6.out⟩
          · rw [← HCL.out, el]
            show clipF (rest.length - 1 + 1) _ _ = (if 3 < rest.length then (match firstE rest with | none => [] | some e => clipF rest.length (rest.eraseIdx e) (parts ++ [triP rest e])) else if rest.length < 3 then [] else parts ++ [triP rest 1])
            rw [if_pos h3, HFE.out, show rest.length - 1 + 1 = rest.length by omega]
          · rw [el, List.length_append]; simp; omega
        case measure => simp [lenV]; omega
      · have E : Hid (clipL ps = []) := Lib.hid (by
          rw [← HCL.out]
          show (if 3 < rest.length then (match firstE rest with | none => [] | some e => clipF rest.length (rest.eraseIdx e) (parts ++ [triP rest e])) else if rest.length < 3 then [] else parts ++ [triP rest 1]) = []
          rw [if_pos h3, hfe])
        have HB := Lib.hid hb
        clear hb hfe
        go_wp2
        go_ret
        exact ⟨⟨_, rfl, by rw [E.out]; exact partsAt_nil _ _⟩, grown_trans HGR.out (grown_of_below HB.out) (fun k h => by cases h)⟩
    · have h3' : ¬ (3 : Int) < rest.length := by omega
      by_cases h4 : rest.length < 3
      · have h4' : (rest.length : Int) < 3 := by omega
        have E : Hid (clipL ps = []) := Lib.hid (by
          rw [← HCL.out]
          show (if 3 < rest.length then (match firstE rest with | none => [] | some e => clipF rest.length (rest.eraseIdx e) (parts ++ [triP rest e])) else if rest.length < 3 then [] else parts ++ [triP rest 1]) = []
          rw [if_neg h3, if_pos h4])
        go_wp2
        go_ret
        exact ⟨⟨_, rfl, by rw [E.out]; exact partsAt_nil _ _⟩, HGR.out⟩
      · have h4' : ¬ (rest.length : Int) < 3 := by omega
        have E : Hid (clipL ps = parts ++ [triP rest 1]) := Lib.hid (by
          rw [← HCL.out]
          show (if 3 < rest.length then (match firstE rest with | none => [] | some e => clipF rest.length (rest.eraseIdx e) (parts ++ [triP rest e])) else if rest.length < 3 then [] else parts ++ [triP rest 1]) = _
          rw [if_neg h3, if_neg h4])
        obtain ⟨w1, hw1⟩ : ∃ w1, w1 = wr := ⟨_, rfl⟩
        have HB : Hid (Below wr.heap.size wr w1) := Lib.hid (by rw [hw1]; exact Below.refl _ _)
        have hH2 : Hid (Sort.HoldsK encP 2 w1 g 0 rest.toArray) := Lib.hid (by rw [hw1]; exact HH1.out)
        have hP2 : Hid (PartsAt w1 w.heap.size u3 parts) := Lib.hid (by rw [hw1]; exact HPT.out)
        have z1 : wr.heap.size ≤ w1.heap.size := HB.out.size
        have TRI := Lib.hid (triAt_at (some ⟨g, 0, none⟩) rest.length cap 1 1 rest w1 rfl rfl (by omega) (by omega) (holds_row hH2.out))
        rw [← hw1]
        clear hw1
        go_wp2_with fail
        refine TRI.out.mono ?_
        rintro e w2 ⟨rfl, hw2⟩
        have hbl : w2.heap[w1.heap.size]? = some (.cells (six (triP rest 1)) 35 (0, 0)) := by rw [hw2]; exact blk_new _ _ _ rfl
        have hB2 : Below w1.heap.size w1 w2 := by rw [hw2]; exact belA (Below.refl _ w1).drew _
        clear hw2
        have hH3 := Lib.hid (holdsK_grown hH2.out (by omega) (grown_of_below hB2) (by simp))
        have hP3 := Lib.hid (partsAt_grown hP2.out (grown_of_below hB2) (fun k h => by cases h))
        have z2 := hB2.size
        have HB2 := Lib.hid hB2
        have HBL := Lib.hid hbl
        clear hB2 hbl
        obtain ⟨ob, hob⟩ : ∃ ob, Obj.cells #[.slice (some ⟨w1.heap.size, 0, none⟩) 3 3] 23 = ob := ⟨_, rfl⟩
        obtain ⟨bs, hbs1, hbs2, hbs3⟩ := partsAt_grown hP3.out (World.grownBy_alloc w2 ob none) (fun k h => by cases h)
        have hH4 := Lib.hid (holdsK_grown hH3.out (by omega) (World.grownBy_alloc w2 ob none) (by simp))
        have HBL4 := Lib.hid (blk_alloc HBL.out ob)
        have EBS := Lib.hid (And.intro hbs1 hbs3)
        have HOW := Lib.hid hbs2
        subst hob
        clear hbs1 hbs3
        go_wp2_with (at_builtin; refine wpList_append_own _ rfl _ _ 31 rfl w.heap.size 23 i0 (.slice none 0 0) 1 24 Try.underlying31 hi0 hz0 hz1' hz2 rfl (by decide) _ _ _ rfl hbs2 ⟨w2.heap.size, 0, none⟩ 1 1 [trV w1.heap.size] rfl rfl ?d1 ?d2 ?d3 ?d4 ?d5 ?_)
        case d1 =>
          intro j u hj
          match j, hj with
          | 0, hj => simp at hj; subst hj; exact cbx' _ _ _ _ 0 _ rfl rfl
        case d2 => intro u hu; simp at hu; subst hu; rfl
        case d3 => unfold maxLen; omega
        case d4 => omega
        case d5 => simp; omega
        intro v' w3 hown' hgrow _
        have P5 := Lib.hid (partsAt_snoc EBS.out.1 HOW.out EBS.out.2 (show w.heap.size ≤ w1.heap.size by omega) HBL4.out (show (triP rest 1).length = 3 from rfl) hgrow hown')
        have HG5 := Lib.hid (grown_trans (grown_trans (grown_trans (grown_trans HGR.out (grown_of_below HB.out) (fun k h => by cases h)) (grown_of_below HB2.out) (fun k h => by cases h)) (World.grownBy_alloc w2 _ none) (fun k h => by cases h)) hgrow (fun k h => .inr (own_blk HOW.out h).1))
        clear hown' hgrow hbs2
        go_wp2
        go_ret
        exact ⟨⟨_, rfl, by rw [E.out]; exact P5.out⟩, HG5.out⟩
end Go.Proofs.Ytnpadblfpaiofaa
