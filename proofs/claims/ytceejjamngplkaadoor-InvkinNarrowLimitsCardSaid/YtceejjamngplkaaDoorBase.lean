/- What every card of this seat shares: the table's cells out of the listed datum; a start that meets the condition. -/
import Derived.Test.YtceejjamngplkaaDoorRotA
import Derived.LaidMore
import Derived.MakeChecks
import Derived.Stop.Joined
namespace Go.Proofs.YtceejjamngplkaaDoor
open Go.ChangeShapes Go.WideShapes Go.ChangeAt Go.RowKit
set_option maxRecDepth 100000

theorem own : ownKnob Tryd.prog.godebug = none := by kernel_rfl
/-- The listed variable, by its name in the given rows. -/
def qn : String := (Rows.invkinMatchesReferenceRow.laid.map (fun x => x.1)).headD ""
theorem gTab : Tryd.prog.globalNamed qn = some 0 := by kernel_rfl
theorem tTab : (Tryd.prog.globals[0]?).map (·.type) = some 83 := by kernel_rfl
theorem cellsRow : Tryd.prog.cellsOf 82 = 2 := by kernel_rfl
theorem cellsInt : Tryd.prog.cellsOf 3 = 1 := by kernel_rfl

/-- One row of the table. -/
theorem row_of_trod {H : Type} {enc : TypeId × Value → H} {w : World} {base : Nat} {sp : Nat → Bool} {held : Bool} {fuel : Nat} {cs : List Value} {a b : Int} {p : List MemPlace}
    (h : DataW.trod enc Tryd.prog w base sp held fuel 82 cs = some (.agg [.lit (.int .i64 a), .lit (.int .i64 b)], p)) : cs = [.int .i64 a, .int .i64 b] := by
  obtain ⟨xs, m, rfl, hx, hlen, hn, hel⟩ := DataW.trod_array Tryd.underlying82 h
  rw [cellsRow] at hlen
  match cs, hlen, xs, hn with
  | [c, d], _, [x, y], _ =>
    have h0 := hel 0 (by omega)
    have h1 := hel 1 (by omega)
    rw [cellsInt] at h0 h1
    obtain ⟨n0, e0, f0, _⟩ := DataW.trod_int Tryd.underlying3 (show DataW.trod enc Tryd.prog w base sp held m 3 [c] = some x from h0)
    obtain ⟨n1, e1, f1, _⟩ := DataW.trod_int Tryd.underlying3 (show DataW.trod enc Tryd.prog w base sp held m 3 [d] = some y from h1)
    subst f0 f1
    simp at hx e0 e1
    obtain ⟨⟨rfl, rfl⟩, _⟩ := hx
    rw [e0, e1]

theorem tab_of_laid {W : World} (h : laidMetH Tryd.prog [(qn, Rows.laid_ambidexter_rotation_quadrant)] W) : Tab W := by
  rw [MakeChecks.laidMetH_plain _ _ _ (by kernel_rfl)] at h
  obtain ⟨ps, ⟨g, t, cs, fuel, p, q, hg, ht, hv, hd, _, _⟩, _, _⟩ := h
  obtain rfl := Option.some.inj (gTab.symm.trans hg)
  obtain rfl := Option.some.inj (tTab.symm.trans ht)
  obtain ⟨xs, m, rfl, hx, hlen, hn, hel⟩ := DataW.trod_array Tryd.underlying83 hd
  have hmap : xs.map (·.1) = [.agg [.lit (.int .i64 65), .lit (.int .i64 0)], .agg [.lit (.int .i64 63), .lit (.int .i64 16)], .agg [.lit (.int .i64 60), .lit (.int .i64 25)], .agg [.lit (.int .i64 56), .lit (.int .i64 33)], .agg [.lit (.int .i64 52), .lit (.int .i64 39)], .agg [.lit (.int .i64 39), .lit (.int .i64 52)], .agg [.lit (.int .i64 33), .lit (.int .i64 56)], .agg [.lit (.int .i64 25), .lit (.int .i64 60)], .agg [.lit (.int .i64 16), .lit (.int .i64 63)]] := by
    simp only [Prod.mk.injEq, Rows.laid_ambidexter_rotation_quadrant, DataW.agg.injEq] at hx
    exact hx.1.symm
  intro k hk
  have key : (xs[k]?).map (·.1) = some (.agg [.lit (.int .i64 (crow k)), .lit (.int .i64 (srow k))]) := by
    rw [← List.getElem?_map, hmap]
    have : k = 0 ∨ k = 1 ∨ k = 2 ∨ k = 3 ∨ k = 4 ∨ k = 5 ∨ k = 6 ∨ k = 7 ∨ k = 8 := by omega
    rcases this with rfl | rfl | rfl | rfl | rfl | rfl | rfl | rfl | rfl <;> rfl
  obtain ⟨⟨d, pl⟩, hxk, hd'⟩ := Option.map_eq_some_iff.1 key
  simp only at hd'
  subst hd'
  have hr := hel k hk
  rw [cellsRow, hxk] at hr
  have hc := row_of_trod hr
  have i0 : cs[k * 2]? = some (.int .i64 (crow k)) := by
    have := congrArg (fun l : List Value => l[0]?) hc
    simpa [List.getElem?_take, List.getElem?_drop] using this
  have i1 : cs[k * 2 + 1]? = some (.int .i64 (srow k)) := by
    have := congrArg (fun l : List Value => l[1]?) hc
    simpa [List.getElem?_take, List.getElem?_drop] using this
  exact ⟨(World.var?_cell gTab hv _).trans i0, (World.var?_cell gTab hv _).trans i1⟩

/-- The heap that the program's own initialisers leave meets the condition. -/
theorem door_met (os : Os) (args : Array Value) : laidMetH Tryd.prog [(qn, Rows.laid_ambidexter_rotation_quadrant)] ((World.doorLaid Tryd.prog 600 os).forCall (fun _ _ => 0) ⟨#[], args, []⟩).memory :=
  laidMetH_of_parts3 (fuel := 8) (laidMet_of_run' 8 (by kernel_rfl) (by kernel_rfl)) (by kernel_rfl) (by kernel_rfl)
end Go.Proofs.YtceejjamngplkaaDoor
