/- What the frames of the laws of layer 10 share: the arguments, opened. -/
import Derived.Test.YtfimejmmcfdgaaaDoorHb
import Derived.WalkKit
import Derived.ProofKit
import Derived.OpenShut
import Derived.ShutString
import Derived.ChangeOld
import Derived.ChangeSlices
import Derived.ChangeMaps5
import Derived.Below
import Derived.Carry
import Derived.Lib.SmallJoins
import Derived.Deep.SlicePairs
namespace Go.Proofs.YtfimejmmcfdgaaaDoor
open Go.RowKit
/-- A slice of bytes that reads as the list zs. -/
def URow (w : World) (ao : Option Addr) (zs : List Int) : Prop := ∀ i, i < zs.length → ∃ b o, ao = some ⟨b, o, none⟩ ∧ w.cell? ⟨b, o + i, none⟩ = some (.int .u8 (zs.getD i 0)) ∧ 0 ≤ zs.getD i 0 ∧ zs.getD i 0 ≤ 255
theorem urow_below {w w' : World} {ao : Option Addr} {l : List Int} (h : URow w ao l) (hb : Below w.heap.size w w') : URow w' ao l := fun i hi => by
  obtain ⟨b, o, e, c, d⟩ := h i hi
  exact ⟨b, o, e, (hb.cell (World.block_lt_of_cell? w _ c)).trans c, d⟩
end Go.Proofs.YtfimejmmcfdgaaaDoor
namespace Go.Proofs.YtfimejmmcfdgaaaDoor.HFr
open Go.ChangeShapes Go.WideShapes Go.ChangeAt Go.RowKit Go.Deep
set_option maxRecDepth 100000
set_option linter.unusedVariables false
set_option linter.unusedSimpArgs false
theorem own : ownKnob Tryd.prog.godebug = none := by kernel_rfl
theorem laidOut : laidOutB Tryd.prog = true := by kernel_rfl
section
variable {H : Type} {enc : TypeId × Value → H} {w : World} {base : Nat} {spare : Nat → Bool} {held : Bool}
theorem addr_flat {a : Addr} {v : Value} (h : w.cell? (a.add 0) = some v) : a.spot = none ∧ ∀ k, a.add k = ⟨a.block, a.off + k, none⟩ := by
  have hsp : a.spot = none := by
    unfold World.cell? at h
    simp [Addr.add] at h
    split at h
    · split at h
      · cases h
      · rename_i hh; simpa using hh
    · cases h
  refine ⟨hsp, fun k => ?_⟩
  unfold Addr.add
  split
  · rename_i h0; subst h0; cases a; simp at hsp; subst hsp; rfl
  · rfl
theorem open_u8s {r : Reach} {b0 : Nat} {v : Value} {d : DataW H} {p : List MemPlace} (hv : Value.okWide Tryd.prog w r b0 32 v) (h : DataW.Trod enc Tryd.prog w base spare held 32 v d p) :
    ∃ (ao : Option Addr) (cap : Nat) (l : List Int), v = .slice ao l.length cap ∧ l.length ≤ 9223372036854775807 ∧ URow w ao l := by
  obtain ⟨ao, len, cap, rfl⟩ := okWide_slice Tryd.underlying32 hv
  obtain ⟨fuel, hf⟩ := h
  rcases open_ints Tryd.underlying32 Tryd.underlying5 rfl hf with ⟨hcs, _⟩ | ⟨a, len', cap', zs, hcs, _, hl, hcm, hz, _, hi, hw⟩
  · simp [Value.cells] at hcs
    obtain ⟨rfl, rfl, rfl⟩ := hcs
    exact ⟨none, 0, [], rfl, by simp, fun i hi => absurd hi (by simp)⟩
  · simp [Value.cells] at hcs
    obtain ⟨rfl, rfl, rfl⟩ := hcs
    have hlz : len ≤ zs.length := by rw [hz]; split <;> omega
    have hll : (zs.take len).length = len := by rw [List.length_take]; omega
    refine ⟨some a, cap, zs.take len, by rw [hll], by rw [hll]; unfold maxLen at hcm; omega, fun i hil => ?_⟩
    rw [hll] at hil
    obtain ⟨hsp, had⟩ := addr_flat (hi 0 (by omega))
    have c := hi i (by omega)
    rw [had] at c
    have e : (zs.take len).getD i 0 = zs.getD i 0 := by
      rw [List.getD_eq_getElem?_getD, List.getD_eq_getElem?_getD, List.getElem?_take_of_lt hil]
    have hm : zs.getD i 0 ∈ zs := by
      rw [List.getD_eq_getElem?_getD, List.getElem?_eq_getElem (by omega)]
      exact List.getElem_mem _
    have hb := bounds_u8 (hw _ hm)
    exact ⟨a.block, a.off, by cases a; simp at hsp; subst hsp; rfl, by rw [e]; exact c, by rw [e]; exact hb.1, by rw [e]; exact hb.2⟩
end
end Go.Proofs.YtfimejmmcfdgaaaDoor.HFr
