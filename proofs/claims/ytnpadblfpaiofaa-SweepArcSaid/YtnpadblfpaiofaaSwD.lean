/- Contracts of sweep.collect at three lists of points and of sweep.Region. The coordinates are bounded. -/
import Derived.Test.YtnpadblfpaiofaaSwC
import Derived.Test.YtnpadblfpaiofaaHlH
import Derived.Laws.AppendOwn
namespace Go.Proofs.Ytnpadblfpaiofaa
open Go.ChangeShapes Go.WideShapes Go.ChangeAt Go.RowKit
set_option linter.unusedVariables false
set_option linter.unusedSimpArgs false

theorem run_app_nil {P : Program} (w : World) (t ty : TypeId) (e : TypeId) (i : TypeInfo) (ht : P.underlying t = some (.slice e)) (hi : P.info? e = some i) (v : Value) (n c : Nat) (hv : v = .slice none 0 0 ∨ ∃ g cap, v = .slice (some ⟨g, 0, none⟩) n cap ∧ n ≤ cap ∧ cap ≤ maxLen) :
    (Builtin.append_ #[t, t] ty #[v, .slice none 0 c]).run P w = .ok v w := by
  rcases hv with rfl | ⟨g, cap, rfl, h1, h2⟩
  · simp [Builtin.append_, run_underlying ht, sizeOf, typeInfo, hi, Builtin.lenOf, Builtin.firstCells, loadCells, loadCellsFrom, storeCells]
  · have : ¬ cap < n := by omega
    unfold maxLen at h2
    have h3 : ¬ (9223372036854775807 : Int) < n := by omega
    simp [Builtin.append_, run_underlying ht, sizeOf, typeInfo, hi, Builtin.lenOf, Builtin.firstCells, loadCells, loadCellsFrom, storeCells, this, h3, h1]
/-- An append of a whole list, wherever it lies. -/
theorem wpList_append_row {P : Program} {w : World} {ops : Array Oper} {rest : List Oper} {o : Oper} {a : Act} {Q : Exit → Act → World → Prop} (hgd : o.guard = none) (s x : Operand) (t : TypeId)
    (ho : o.op = .call { callee := .builtin .append, args := #[s, x], argTypes := #[t, t] })
    (base : Nat) (i : TypeInfo) (z : Value) (ht : P.underlying t = some (.slice 35)) (hi : P.info? 35 = some i) (hz : i.zero = some z)
    (hsize : i.size = 2) (hby : i.bytes = 16) (hzs : z.cells.size = 2)
    (v : Value) (n : Nat) (xs : List Value) (hs : a.eval s = v) (hown : w.ownsRow base 35 2 v n xs)
    (ao : Option Addr) (m c : Nat) (l : List (Int × Int)) (hx : a.eval x = .slice ao m c) (hl : l.length = m) (hP : PRow w ao l)
    (h63 : n + m ≤ 1000000) (hbase : base ≤ w.heap.size)
    (h : ∀ v' w', w'.ownsRow base 35 2 v' (n + m) (xs ++ flat l) → w.grownBy w' v.ownBlock → wpList P ops Q rest (a.put o.dst v') w') : wpList P ops Q (o :: rest) a w := by
  subst hl
  have hsz := flat_len l
  cases ao with
  | some ad =>
    obtain ⟨g, off, sp⟩ := ad
    rcases Nat.eq_zero_or_pos l.length with h0 | h0
    · obtain rfl : l = [] := List.eq_nil_of_length_eq_zero h0
      exact wpList_append_own w hgd s x t ho base 35 i z 2 16 ht hi hz hsize hby hzs (by decide) v n xs hs hown _ 0 c [] hx rfl (fun j u hj => by simp at hj) (fun u hu => by simp at hu) (by unfold maxLen; omega) (by omega) hbase (fun v' w' h1 h2 _ => h v' w' h1 h2)
    · obtain ⟨b', o', e, _, _⟩ := hP 0 h0
      cases e
      exact wpList_append_own w hgd s x t ho base 35 i z 2 16 ht hi hz hsize hby hzs (by decide) v n xs hs hown _ l.length c (flat l) hx hsz (prow_flat hP) (flat_one l) (by unfold maxLen; omega) (by omega) hbase (fun v' w' h1 h2 _ => h v' w' h1 h2)
  | none =>
    have h0 : l = [] := by
      rcases Nat.eq_zero_or_pos l.length with h0 | h0
      · exact List.eq_nil_of_length_eq_zero h0
      · obtain ⟨b', o', e, _, _⟩ := hP 0 h0
        cases e
    subst h0
    refine wpList_plain hgd fun K hK => ?_
    have hr := run_app_nil w t o.type 35 i ht hi v n c (by
      rcases hown.2 with ⟨h1, h2⟩ | ⟨g, cap, cur, h1, k1, k2, k3, k4, k5, k6⟩
      · exact .inl h1
      · exact .inr ⟨g, cap, h1, k3, k4⟩)
    unfold Oper.wp execOp
    simp only [ho, resolve, invoke, builtin, Sem.run_bind, Sem.run_pure, Result.andThen_ok, List.map_toArray, List.map_cons, List.map_nil, hs, hx, List.length_nil, hr]
    refine hK _ _ (h v w (by simpa [flat] using hown) ⟨rfl, rfl, rfl, Nat.le_refl _, fun k _ _ => rfl⟩)

set_option maxRecDepth 100000 in
set_option maxHeartbeats 4000000 in
theorem gather_is (bb cc n1 n2 n3 : Nat) (a1 a2 a3 : Option Addr) (c1 c2 c3 : Nat) (l1 l2 l3 us : List (Int × Int)) (w : World) (e1 : l1.length = n1) (e2 : l2.length = n2) (e3 : l3.length = n3) (hu : Hid (l1 ++ l2 ++ l3 = us)) (hl : n1 + n2 + n3 ≤ 1000) (h1 : w.cell? ⟨bb, 0, none⟩ = some (.slice a1 n1 c1)) (h2 : w.cell? ⟨bb, 1, none⟩ = some (.slice a2 n2 c2)) (h3 : w.cell? ⟨bb, 2, none⟩ = some (.slice a3 n3 c3))
    (p1 : PRow w a1 l1) (p2 : PRow w a2 l2) (p3 : PRow w a3 l3) :
    Calls Try.prog 54 #[.slice (some ⟨bb, 0, none⟩) 3 cc] w fun e w' => (∃ v, e = .returned v ∧ w'.ownsRow w.heap.size 35 2 v us.length (flat us)) ∧ Below w.heap.size w w' := by
  obtain ⟨i0, hi, hz0, hz1', hz2⟩ := info_parts infoP
  have HP1 := Lib.hid p1
  have HP2 := Lib.hid p2
  have HP3 := Lib.hid p3
  have hzb := World.block_lt_of_cell? w _ h1
  have E : Hid (n1 = l1.length ∧ n2 = l2.length ∧ n3 = l3.length) := Lib.hid ⟨e1.symm, e2.symm, e3.symm⟩
  clear p1 p2 p3 e1 e2 e3
  go_enter Try.func54, Try.ntmps54
  go_wp2
  go_loopw [3, 8] (fun v i wr => Below w.heap.size w wr ∧ ((i = .int .i64 0 ∧ wr.ownsRow w.heap.size 35 2 v 0 []) ∨ (i = .int .i64 1 ∧ wr.ownsRow w.heap.size 35 2 v (0 + n1) ([] ++ flat l1)) ∨ (i = .int .i64 2 ∧ wr.ownsRow w.heap.size 35 2 v (0 + n1 + n2) ([] ++ flat l1 ++ flat l2)) ∨ (i = .int .i64 3 ∧ wr.ownsRow w.heap.size 35 2 v (0 + n1 + n2 + n3) ([] ++ flat l1 ++ flat l2 ++ flat l3)))) (fun _ i _ => 3 - (intOf i).toNat)
  case atStart => exact ⟨Below.refl _ _, .inl ⟨rfl, rfl, .inl ⟨rfl, rfl⟩⟩⟩
  case round =>
    obtain ⟨hB2, ⟨rfl, hO2⟩ | ⟨rfl, hO2⟩ | ⟨rfl, hO2⟩ | ⟨rfl, hO2⟩⟩ := hrel
    all_goals have d1 := (hB2.cell (p := ⟨bb, 0, none⟩) hzb).trans h1
    all_goals have d2 := (hB2.cell (p := ⟨bb, 1, none⟩) hzb).trans h2
    all_goals have d3 := (hB2.cell (p := ⟨bb, 2, none⟩) hzb).trans h3
    · go_wp2_with (at_builtin; refine wpList_append_row rfl _ _ 22 rfl w.heap.size i0 (.agg #[.int .i64 0, .int .i64 0]) Try.underlying22 hi hz0 hz1' hz2 rfl _ _ _ rfl hO2 a1 n1 c1 l1 rfl E.out.1.symm (prow_below HP1.out hB2) (by omega) hB2.size ?_)
      intro v' w3 hown' hgrow
      have hB3 : Below w.heap.size w w3 := hB2.grown hgrow hB2.size (fun k hk => (hO2.lt k hk).1)
      have HO3 := Lib.hid hown'
      clear hgrow hown' hB2 hO2 d1 d2 d3
      go_wp2
      go_roundw
      case rel => exact ⟨hB3, .inr (.inl ⟨by go_num, by simpa using HO3.out⟩)⟩
      case measure => simp [intOf]
    · go_wp2_with (at_builtin; refine wpList_append_row rfl _ _ 22 rfl w.heap.size i0 (.agg #[.int .i64 0, .int .i64 0]) Try.underlying22 hi hz0 hz1' hz2 rfl _ _ _ rfl hO2 a2 n2 c2 l2 rfl E.out.2.1.symm (prow_below HP2.out hB2) (by omega) hB2.size ?_)
      intro v' w3 hown' hgrow
      have hB3 : Below w.heap.size w w3 := hB2.grown hgrow hB2.size (fun k hk => (hO2.lt k hk).1)
      have HO3 := Lib.hid hown'
      clear hgrow hown' hB2 hO2 d1 d2 d3
      go_wp2
      go_roundw
      case rel => exact ⟨hB3, .inr (.inr (.inl ⟨by go_num, by simpa using HO3.out⟩))⟩
      case measure => simp [intOf]
    · go_wp2_with (at_builtin; refine wpList_append_row rfl _ _ 22 rfl w.heap.size i0 (.agg #[.int .i64 0, .int .i64 0]) Try.underlying22 hi hz0 hz1' hz2 rfl _ _ _ rfl hO2 a3 n3 c3 l3 rfl E.out.2.2.symm (prow_below HP3.out hB2) (by omega) hB2.size ?_)
      intro v' w3 hown' hgrow
      have hB3 : Below w.heap.size w w3 := hB2.grown hgrow hB2.size (fun k hk => (hO2.lt k hk).1)
      have HO3 := Lib.hid hown'
      clear hgrow hown' hB2 hO2 d1 d2 d3
      go_wp2
      go_roundw
      case rel => exact ⟨hB3, .inr (.inr (.inr ⟨by go_num, by simpa using HO3.out⟩))⟩
      case measure => simp [intOf]
    · have HO3 := Lib.hid hO2
      clear hO2 d1 d2 d3
      go_wp2
      go_ret
      refine ⟨⟨_, rfl, ?_⟩, hB2⟩
      obtain ⟨r1, r2, r3⟩ := E.out
      subst r1 r2 r3
      rw [← hu.out, flat_app, flat_app, List.length_append, List.length_append]
      simpa using HO3.out
end Go.Proofs.Ytnpadblfpaiofaa
