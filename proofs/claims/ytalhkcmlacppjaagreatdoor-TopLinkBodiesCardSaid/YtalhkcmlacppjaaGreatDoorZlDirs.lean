/- Helpers: what the law reaches. -/
import Derived.LaidMore
import Derived.MakeChecks
import Derived.Stop.Joined
import Derived.Test.YtalhkcmlacppjaaGreatDoorZlRotC
namespace Go.Proofs.YtalhkcmlacppjaaGreatDoor
open Go.ChangeShapes Go.WideShapes Go.ChangeAt Go.RowKit
set_option maxRecDepth 100000

theorem own : ownKnob Tryz.prog.godebug = none := by kernel_rfl
/-- The listed variable, by its name in the given rows. -/
def qn : String := (Rows.topLinkBodiesRow.laid.map (fun x => x.1)).headD ""
theorem gTab : Tryz.prog.globalNamed qn = some 0 := by kernel_rfl
theorem tTab : (Tryz.prog.globals[0]?).map (·.type) = some 147 := by kernel_rfl
theorem cellsRow : Tryz.prog.cellsOf 146 = 2 := by kernel_rfl
theorem cellsInt : Tryz.prog.cellsOf 3 = 1 := by kernel_rfl

/-- One row of the table. -/
theorem row_of_trod {H : Type} {enc : TypeId × Value → H} {w : World} {base : Nat} {sp : Nat → Bool} {held : Bool} {fuel : Nat} {cs : List Value} {a b : Int} {p : List MemPlace}
    (h : DataW.trod enc Tryz.prog w base sp held fuel 146 cs = some (.agg [.lit (.int .i64 a), .lit (.int .i64 b)], p)) : cs = [.int .i64 a, .int .i64 b] := by
  obtain ⟨xs, m, rfl, hx, hlen, hn, hel⟩ := DataW.trod_array Tryz.underlying146 h
  rw [cellsRow] at hlen
  match cs, hlen, xs, hn with
  | [c, d], _, [x, y], _ =>
    have h0 := hel 0 (by omega)
    have h1 := hel 1 (by omega)
    rw [cellsInt] at h0 h1
    obtain ⟨n0, e0, f0, _⟩ := DataW.trod_int Tryz.underlying3 (show DataW.trod enc Tryz.prog w base sp held m 3 [c] = some x from h0)
    obtain ⟨n1, e1, f1, _⟩ := DataW.trod_int Tryz.underlying3 (show DataW.trod enc Tryz.prog w base sp held m 3 [d] = some y from h1)
    subst f0 f1
    simp at hx e0 e1
    obtain ⟨⟨rfl, rfl⟩, _⟩ := hx
    rw [e0, e1]

theorem tab_of_laid {W : World} (h : laidMetH Tryz.prog [(qn, Rows.laid_ambidexter_rotation_quadrant)] W) : Tab W := by
  rw [MakeChecks.laidMetH_plain _ _ _ (by kernel_rfl)] at h
  obtain ⟨ps, ⟨g, t, cs, fuel, p, q, hg, ht, hv, hd, _, _⟩, _, _⟩ := h
  obtain rfl := Option.some.inj (gTab.symm.trans hg)
  obtain rfl := Option.some.inj (tTab.symm.trans ht)
  obtain ⟨xs, m, rfl, hx, hlen, hn, hel⟩ := DataW.trod_array Tryz.underlying147 hd
  have hmap : xs.map (·.1) = [.agg [.lit (.int .i64 65), .lit (.int .i64 0)], .agg [.lit (.int .i64 63), .lit (.int .i64 16)], .agg [.lit (.int .i64 60), .lit (.int .i64 25)], .agg [.lit (.int .i64 56), .lit (.int .i64 33)], .agg [.lit (.int .i64 52), .lit (.int .i64 39)], .agg [.lit (.int .i64 39), .lit (.int .i64 52)], .agg [.lit (.int .i64 33), .lit (.int .i64 56)], .agg [.lit (.int .i64 25), .lit (.int .i64 60)], .agg [.lit (.int .i64 16), .lit (.int .i64 63)]] := by
    simp only [Prod.mk.injEq, Rows.laid_ambidexter_rotation_quadrant, DataW.agg.injEq] at hx
    exact hx.1.symm
  intro k hk
  have key : (xs[k]?).map (·.1) = some (.agg [.lit (.int .i64 (crow k)), .lit (.int .i64 (srow k))]) := by
    rw [← List.getElem?_map, hmap]
    have : k = 0 ∨ k = 1 ∨ k = 2 ∨ k = 3 ∨ k = 4 ∨ k = 5 ∨ k = 6 ∨ k = 7 ∨ k = 8 := by omega
    rcases this with rfl | rfl | rfl | rfl | rfl | rfl | rfl | rfl | rfl <;> rfl
  obtain ⟨⟨d, pl⟩, hxk, hd'⟩ := Option.map_eq_some_iff.1 key
  simp only at hd'
  subst hd'
  have hr := hel k hk
  rw [cellsRow, hxk] at hr
  have hc := row_of_trod hr
  have i0 : cs[k * 2]? = some (.int .i64 (crow k)) := by
    have := congrArg (fun l : List Value => l[0]?) hc
    simpa [List.getElem?_take, List.getElem?_drop] using this
  have i1 : cs[k * 2 + 1]? = some (.int .i64 (srow k)) := by
    have := congrArg (fun l : List Value => l[1]?) hc
    simpa [List.getElem?_take, List.getElem?_drop] using this
  exact ⟨(World.var?_cell gTab hv _).trans i0, (World.var?_cell gTab hv _).trans i1⟩

/-- The heap that the program's own initialisers leave meets the condition. -/
theorem door_met (os : Os) (args : Array Value) : laidMetH Tryz.prog [(qn, Rows.laid_ambidexter_rotation_quadrant)] ((World.doorLaid Tryz.prog 600 os).forCall (fun _ _ => 0) ⟨#[], args, []⟩).memory :=
  laidMetH_of_parts3 (fuel := 8) (laidMet_of_run' 8 (by kernel_rfl) (by kernel_rfl)) (by kernel_rfl) (by kernel_rfl)
end Go.Proofs.YtalhkcmlacppjaaGreatDoor

namespace Go.Proofs.YtalhkcmlacppjaaGreatDoor
open Go.ChangeShapes Go.WideShapes Go.ChangeAt Go.RowKit

theorem len65 : ∀ k, k < 36 → (csF k).1 * (csF k).1 + (csF k).2 * (csF k).2 = 4225 := by decide +kernel
theorem sq_le {c B : Int} (hB : 0 ≤ B) (h : c * c ≤ B * B) : -B ≤ c ∧ c ≤ B := by
  constructor
  · false_or_by_contra
    have := Int.mul_nonneg (show 0 ≤ -c - (B + 1) by omega) (show 0 ≤ -c + (B + 1) by omega)
    grind
  · false_or_by_contra
    have := Int.mul_nonneg (show 0 ≤ c - (B + 1) by omega) (show 0 ≤ c + (B + 1) by omega)
    grind
theorem sq_nnR (s : Int) : 0 ≤ s * s := by
  rcases Int.le_total 0 s with hs | hs
  · exact Int.mul_nonneg hs hs
  · have := Int.mul_nonneg (show 0 ≤ -s by omega) (show 0 ≤ -s by omega)
    rwa [Int.neg_mul_neg] at this
end Go.Proofs.YtalhkcmlacppjaaGreatDoor

namespace Go.Proofs.YtalhkcmlacppjaaGreatDoor
open Go.ChangeShapes Go.WideShapes Go.ChangeAt Go.RowKit

theorem p65_two (N : Int) (h0 : 0 ≤ N) (h3 : N ≤ 3) : p65 (2 * N) = p65 N * p65 N := by
  have : N = 0 ∨ N = 1 ∨ N = 2 ∨ N = 3 := by omega
  rcases this with rfl | rfl | rfl | rfl <;> decide
theorem vd_of (X Y N : Int) (h0 : 0 ≤ N) (h3 : N ≤ 3) (h : X * X + Y * Y = p65 (2 * N)) : vdB X Y N = true := by
  obtain ⟨b1, b2⟩ := p65_bd N h0 h3
  have hx := sq_nnR X
  have hy := sq_nnR Y
  have e := h.trans (p65_two N h0 h3)
  have h1 := sq_le (c := X) (B := p65 N) (by omega) (by omega)
  have h2 := sq_le (c := Y) (B := p65 N) (by omega) (by omega)
  simp [vdB, withinB, h0, h3, h, h1.1, h1.2, h2.1, h2.2]
theorem vd_len {X Y N : Int} (h : vdB X Y N = true) : X * X + Y * Y = p65 (2 * N) := by
  simp only [vdB, Bool.and_eq_true, beq_iff_eq] at h
  exact h.2.2.2.2
theorem compose_is (X Y N q U V : Int) (w : World) (hT : Tab w) (h : vdB X Y N = true) (hN : N ≤ 2) (hq : -9223372036854775808 ≤ q ∧ q ≤ 9223372036854775807)
    (hU : Hid (X * (csF (q % 36).toNat).1 - Y * (csF (q % 36).toNat).2 = U)) (hV : Hid (X * (csF (q % 36).toNat).2 + Y * (csF (q % 36).toNat).1 = V)) :
    Calls Tryz.prog 65 #[.agg #[.int .i64 X, .int .i64 Y, .int .i64 N], .int .i64 q] w fun e w' => e = .returned (.agg #[.int .i64 U, .int .i64 V, .int .i64 (N + 1)]) ∧ Below w.heap.size w w' := by
  have := compose_ok X Y N q w hT h hN hq
  rw [hU.out, hV.out] at this
  exact this
/-- One rotation more keeps a direction valid. -/
theorem vd_step (X Y N c s : Int) (h : vdB X Y N = true) (hN : N ≤ 2) (hcs : c * c + s * s = 4225) : vdB (X * c - Y * s) (X * s + Y * c) (N + 1) = true := by
  have hb := vd_bd h
  have hl := vd_len h
  refine vd_of _ _ _ (by omega) (by omega) ?_
  have e : (X * c - Y * s) * (X * c - Y * s) + (X * s + Y * c) * (X * s + Y * c) = (X * X + Y * Y) * (c * c + s * s) := by grind
  rw [e, hl, hcs]
  have : N = 0 ∨ N = 1 ∨ N = 2 := by omega
  rcases this with rfl | rfl | rfl <;> decide
end Go.Proofs.YtalhkcmlacppjaaGreatDoor

