/- What the frames of the laws of layer 4 share: the arguments, opened. -/
import Derived.Test.YtceejjamngplkaaDoorHp
import Derived.WalkKit
import Derived.ProofKit
import Derived.OpenShut
import Derived.ShutString
import Derived.ChangeOld
import Derived.ChangeSlices
import Derived.Below
import Derived.Carry
import Derived.Lib.SmallJoins
import Derived.Deep.SlicePairs
namespace Go.Proofs.YtceejjamngplkaaDoor
open Go.RowKit
/-- A slice of bytes that reads as the list zs. -/
def URow (w : World) (ao : Option Addr) (zs : List Int) : Prop := ∀ i, i < zs.length → ∃ b o, ao = some ⟨b, o, none⟩ ∧ w.cell? ⟨b, o + i, none⟩ = some (.int .u8 (zs.getD i 0)) ∧ 0 ≤ zs.getD i 0 ∧ zs.getD i 0 ≤ 255
theorem urow_below {w w' : World} {ao : Option Addr} {l : List Int} (h : URow w ao l) (hb : Below w.heap.size w w') : URow w' ao l := fun i hi => by
  obtain ⟨b, o, e, c, d⟩ := h i hi
  exact ⟨b, o, e, (hb.cell (World.block_lt_of_cell? w _ c)).trans c, d⟩
end Go.Proofs.YtceejjamngplkaaDoor
namespace Go.Proofs.YtceejjamngplkaaDoor.HFr
open Go.ChangeShapes Go.WideShapes Go.ChangeAt Go.RowKit Go.Deep

theorem own : ownKnob Tryd.prog.godebug = none := by kernel_rfl
theorem laidOut : laidOutB Tryd.prog = true := by kernel_rfl
theorem cellsP : Tryd.prog.cellsOf 23 = 2 := by kernel_rfl
theorem cellsI : Tryd.prog.cellsOf 3 = 1 := by kernel_rfl

section
variable {H : Type} {enc : TypeId × Value → H} {w : World} {base : Nat} {spare : Nat → Bool} {held : Bool}

set_option maxRecDepth 100000 in
theorem pt_of_trod {fuel : Nat} {c d : Value} {x : DataW H × List MemPlace} (h : DataW.trod enc Tryd.prog w base spare held fuel 23 [c, d] = some x) : ∃ a b : Int, c = .int .i64 a ∧ d = .int .i64 b := by
  obtain ⟨xs, n, _, hx, _, hlen, hf⟩ := DataW.trod_struct Tryd.underlying23 h
  match xs, hlen with
  | [y0, y1], _ =>
    have g0 := hf 0 _ rfl
    have g1 := hf 1 _ rfl
    simp [cellsI] at g0 g1
    obtain ⟨a, ea, _, _⟩ := DataW.trod_int Tryd.underlying3 g0
    obtain ⟨b, eb, _, _⟩ := DataW.trod_int Tryd.underlying3 g1
    exact ⟨a, b, by simpa using ea, by simpa using eb⟩

set_option maxRecDepth 100000 in
theorem open_pt {r : Reach} {b0 : Nat} {v : Value} {d : DataW H} {p : List MemPlace} (hv : Value.okWide Tryd.prog w r b0 23 v) (h : DataW.Trod enc Tryd.prog w base spare held 23 v d p) :
    ∃ x y : Int, v = .agg #[.int .i64 x, .int .i64 y] := by
  obtain ⟨cs, rfl, hsz⟩ := okWide_struct Tryd.underlying23 hv
  rw [cellsP] at hsz
  obtain ⟨l⟩ := cs
  obtain ⟨fuel, hf⟩ := h
  match l, hsz with
  | [c0, c1], _ =>
    obtain ⟨x, y, rfl, rfl⟩ := pt_of_trod hf
    exact ⟨x, y, rfl⟩

theorem addr_flat {a : Addr} {v : Value} (h : w.cell? (a.add 0) = some v) : a.spot = none ∧ ∀ k, a.add k = ⟨a.block, a.off + k, none⟩ := by
  have hsp : a.spot = none := by
    unfold World.cell? at h
    simp [Addr.add] at h
    split at h
    · split at h
      · cases h
      · rename_i hh; simpa using hh
    · cases h
  refine ⟨hsp, fun k => ?_⟩
  unfold Addr.add
  split
  · rename_i h0; subst h0; cases a; simp at hsp; subst hsp; rfl
  · rfl
end
end Go.Proofs.YtceejjamngplkaaDoor.HFr
