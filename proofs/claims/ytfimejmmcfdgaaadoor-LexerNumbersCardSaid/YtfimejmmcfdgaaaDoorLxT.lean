/- The lexer's table of kinds of bytes: its cells out of the listed datum; a start that meets the condition. -/
import Derived.Test.YtfimejmmcfdgaaaDoorLxH
import Derived.LaidMore
import Derived.MakeChecks
import Derived.Stop.Joined
namespace Go.Proofs.YtfimejmmcfdgaaaDoor
open Go.ChangeShapes Go.WideShapes Go.ChangeAt Go.RowKit
set_option linter.unusedVariables false
set_option linter.unusedSimpArgs false
set_option maxRecDepth 100000

theorem own : ownKnob Tryd.prog.godebug = none := by kernel_rfl
/-- The listed variable, by its name in the given rows. -/
def qn : String := (Rows.lexerMatchesReferenceRow.laid.map (fun x => x.1)).headD ""
theorem gTab : Tryd.prog.globalNamed qn = some 0 := by kernel_rfl
theorem tTab : (Tryd.prog.globals[0]?).map (·.type) = some 47 := by kernel_rfl
theorem cellsOne : Tryd.prog.cellsOf 46 = 1 := by kernel_rfl
/-- The kinds of a byte in the table. -/
def clsI (c : UInt8) : Int := if c = 10 then 3 else [0, 8, 16, 32, 128, 1, 4, 64].getD (kd c) 0
def Tab (w : World) : Prop := ∀ c : UInt8, w.cell? ⟨0, c.toNat, none⟩ = some (.int .u8 (clsI c))
theorem Tab.pos {w : World} (h : Tab w) : 0 < w.heap.size := World.block_lt_of_cell? w _ (h 0)
theorem Tab.below {w w' : World} (h : Tab w) (hb : Below w.heap.size w w') : Tab w' := fun c => (hb.cell (p := ⟨0, c.toNat, none⟩) h.pos).trans (h c)
theorem Tab.alloc {w : World} (h : Tab w) (o : Obj) : Tab (w.alloc o) := h.below ((Below.refl _ _).alloc (Nat.le_refl _) o)
theorem tab_of_laid {W : World} (h : laidMetH Tryd.prog [(qn, Rows.laid_ambidexter_lexer_classes)] W) : Tab W := by
  rw [MakeChecks.laidMetH_plain _ _ _ (by kernel_rfl)] at h
  obtain ⟨ps, ⟨g, t, cs, fuel, p, q, hg, ht, hv, hd, _, _⟩, _, _⟩ := h
  obtain rfl := Option.some.inj (gTab.symm.trans hg)
  obtain rfl := Option.some.inj (tTab.symm.trans ht)
  obtain ⟨xs, m, rfl, hx, hlen, hn, hel⟩ := DataW.trod_array Tryd.underlying47 hd
  have hmap : xs.map (·.1) = (List.range 256).map fun k => .lit (.int .u8 (clsI (UInt8.ofNat k))) := by
    have h1 := (DataW.agg.inj (Prod.mk.inj hx).1).symm
    refine h1.trans ?_
    rfl
  intro c
  have hc := c.toNat_lt
  have key : (xs[c.toNat]?).map (·.1) = some (.lit (.int .u8 (clsI c))) := by
    rw [← List.getElem?_map, hmap, List.getElem?_map, List.getElem?_range (by omega)]
    simp
  obtain ⟨⟨d, pl⟩, hxk, hd'⟩ := Option.map_eq_some_iff.1 key
  simp only at hd'
  subst hd'
  have hr := hel c.toNat (by omega)
  rw [cellsOne, hxk] at hr
  have hlen' : cs.toList.length = 256 := hlen.trans (by kernel_rfl)
  have hk : c.toNat < cs.toList.length := by omega
  obtain ⟨v, hv1⟩ : ∃ v, cs.toList[c.toNat] = v := ⟨_, rfl⟩
  rw [Nat.mul_one, List.drop_eq_getElem_cons hk, hv1, List.take_succ_cons, List.take_zero] at hr
  obtain ⟨n0, e0, f0, _⟩ := DataW.trod_int Tryd.underlying46 hr
  have hcv : cs[c.toNat]? = some v := by
    rw [← Array.getElem?_toList, List.getElem?_eq_getElem hk, hv1]
  rw [World.var?_cell gTab hv, hcv]
  simp only [List.cons.injEq, and_true, DataW.lit.injEq, Lit.int.injEq, true_and] at e0
  have f1 : clsI c = n0 := by
    have := congrArg Prod.fst f0
    simpa only [DataW.lit.injEq, Lit.int.injEq, true_and] using this
  rw [e0, f1]
/-- The heap that the program's own initialisers leave meets the condition. -/
theorem door_met (os : Os) (args : Array Value) : laidMetH Tryd.prog [(qn, Rows.laid_ambidexter_lexer_classes)] ((World.doorLaid Tryd.prog 600 os).forCall (fun _ _ => 0) ⟨#[], args, []⟩).memory :=
  laidMetH_of_parts3 (fuel := 8) (laidMet_of_run' 8 (by kernel_rfl) (by kernel_rfl)) (by kernel_rfl) (by kernel_rfl)
end Go.Proofs.YtfimejmmcfdgaaaDoor
