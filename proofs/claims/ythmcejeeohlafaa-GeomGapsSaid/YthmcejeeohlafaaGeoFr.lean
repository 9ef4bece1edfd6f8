/- What the frames of the laws of layer 2 share: the arguments, opened. -/
import Derived.Test.YthmcejeeohlafaaRows
import Derived.WalkKit
import Derived.ProofKit
import Derived.OpenShut
import Derived.ShutString
import Derived.ChangeOld
import Derived.Below
import Derived.Carry
import Derived.Lib.SmallJoins
import Derived.Deep.SlicePairs
namespace Go.Proofs.Ythmcejeeohlafaa
open Go.ChangeShapes Go.WideShapes Go.ChangeAt Go.RowKit Go.Deep

theorem own : ownKnob Try.prog.godebug = none := by kernel_rfl
theorem laidOut : laidOutB Try.prog = true := by kernel_rfl
theorem cellsP : Try.prog.cellsOf 27 = 2 := by kernel_rfl
theorem cellsI : Try.prog.cellsOf 3 = 1 := by kernel_rfl

section
variable {H : Type} {enc : TypeId × Value → H} {w : World} {base : Nat} {spare : Nat → Bool} {held : Bool}

theorem pt_of_trod {fuel : Nat} {c d : Value} {x : DataW H × List MemPlace} (h : DataW.trod enc Try.prog w base spare held fuel 27 [c, d] = some x) : ∃ a b : Int, c = .int .i64 a ∧ d = .int .i64 b := by
  obtain ⟨xs, n, _, hx, _, hlen, hf⟩ := DataW.trod_struct Try.underlying27 h
  match xs, hlen with
  | [y0, y1], _ =>
    have g0 := hf 0 _ rfl
    have g1 := hf 1 _ rfl
    simp [cellsI] at g0 g1
    obtain ⟨a, ea, _, _⟩ := DataW.trod_int Try.underlying3 g0
    obtain ⟨b, eb, _, _⟩ := DataW.trod_int Try.underlying3 g1
    exact ⟨a, b, by simpa using ea, by simpa using eb⟩

theorem open_pt {r : Reach} {b0 : Nat} {v : Value} {d : DataW H} {p : List MemPlace} (hv : Value.okWide Try.prog w r b0 27 v) (h : DataW.Trod enc Try.prog w base spare held 27 v d p) :
    ∃ x y : Int, v = .agg #[.int .i64 x, .int .i64 y] := by
  obtain ⟨cs, rfl, hsz⟩ := okWide_struct Try.underlying27 hv
  rw [cellsP] at hsz
  obtain ⟨l⟩ := cs
  obtain ⟨fuel, hf⟩ := h
  match l, hsz with
  | [c0, c1], _ =>
    obtain ⟨x, y, rfl, rfl⟩ := pt_of_trod hf
    exact ⟨x, y, rfl⟩

/-- A slice that came in reads as the list l. -/
def APts (w : World) (ao : Option Addr) (len : Nat) (l : List (Int × Int)) : Prop :=
  l.length = len ∧ ∀ i, i < len → ∃ a, ao = some a ∧ w.cell? (a.add (i * 2)) = some (.int .i64 (l.getD i (0, 0)).1) ∧ w.cell? (a.add (i * 2 + 1)) = some (.int .i64 (l.getD i (0, 0)).2)

theorem open_pts {r : Reach} {b0 : Nat} {v : Value} {d : DataW H} {p : List MemPlace} (hv : Value.okWide Try.prog w r b0 22 v) (h : DataW.Trod enc Try.prog w base spare held 22 v d p) :
    ∃ (ao : Option Addr) (len cap : Nat) (l : List (Int × Int)), v = .slice ao len cap ∧ APts w ao len l := by
  obtain ⟨ao, len, cap, rfl⟩ := okWide_slice Try.underlying22 hv
  obtain ⟨fuel, hf⟩ := h
  rcases open_slice_pairs Try.underlying22 Try.underlying27 cellsP rfl rfl cellsI cellsI hf with ⟨hcs, _⟩ | ⟨a, len', cap', m, n, V0, V1, D0, D1, P0, P1, hcs, _, hl, _, hm, _, hi⟩
  · simp [Value.cells] at hcs
    obtain ⟨rfl, rfl, rfl⟩ := hcs
    exact ⟨none, 0, 0, [], rfl, rfl, fun i hi => absurd hi (by omega)⟩
  · simp [Value.cells] at hcs
    obtain ⟨rfl, rfl, rfl⟩ := hcs
    have hml : len ≤ m := by rw [hm]; split <;> omega
    refine ⟨some a, len, cap, (List.range len).map (fun i => ((match V0 i with | .int _ z => z | _ => 0), (match V1 i with | .int _ z => z | _ => 0))), rfl, by simp, fun i hil => ⟨a, rfl, ?_⟩⟩
    obtain ⟨c0, c1, t0, t1⟩ := hi i (by omega)
    obtain ⟨z0, e0, _, _⟩ := DataW.trod_int Try.underlying3 t0
    obtain ⟨z1, e1, _, _⟩ := DataW.trod_int Try.underlying3 t1
    have e0' : V0 i = .int .i64 z0 := by simpa using e0
    have e1' : V1 i = .int .i64 z1 := by simpa using e1
    rw [c0, c1, e0', e1']
    simp [List.getD_eq_getElem?_getD, hil, e0', e1']
end
end Go.Proofs.Ythmcejeeohlafaa
