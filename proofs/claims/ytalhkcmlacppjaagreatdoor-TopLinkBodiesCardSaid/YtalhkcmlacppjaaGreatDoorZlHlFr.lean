/- Helpers: what the law reaches. -/
import Derived.WalkKit
import Derived.ProofKit
import Derived.OpenShut
import Derived.ShutString
import Derived.ChangeOld
import Derived.ChangeSlices
import Derived.Below
import Derived.Carry
import Derived.Lib.SmallJoins
import Derived.Deep.SlicePairs
import Derived.Test.YtalhkcmlacppjaaGreatDoorZlHp
namespace Go.Proofs.YtalhkcmlacppjaaGreatDoor
open Go.RowKit
end Go.Proofs.YtalhkcmlacppjaaGreatDoor
namespace Go.Proofs.YtalhkcmlacppjaaGreatDoor.HFr
open Go.ChangeShapes Go.WideShapes Go.ChangeAt Go.RowKit Go.Deep

theorem own : ownKnob Tryz.prog.godebug = none := by kernel_rfl
theorem laidOut : laidOutB Tryz.prog = true := by kernel_rfl
theorem cellsP : Tryz.prog.cellsOf 23 = 2 := by kernel_rfl
theorem cellsI : Tryz.prog.cellsOf 3 = 1 := by kernel_rfl

section
variable {H : Type} {enc : TypeId × Value → H} {w : World} {base : Nat} {spare : Nat → Bool} {held : Bool}

set_option maxRecDepth 100000 in
theorem open_poly {r : Reach} {b0 : Nat} {v : Value} {d : DataW H} {p : List MemPlace} (hv : Value.okWide Tryz.prog w r b0 30 v) (h : DataW.Trod enc Tryz.prog w base spare held 30 v d p) :
    ∃ (ao : Option Addr) (cap : Nat) (l : List (Int × Int)), v = .slice ao l.length cap ∧ l.length ≤ 9223372036854775807 ∧ PRow w ao l := by
  obtain ⟨ao, len, cap, rfl⟩ := okWide_slice Tryz.underlying30 hv
  obtain ⟨fuel, hf⟩ := h
  rcases open_slice_pairs Tryz.underlying30 Tryz.underlying23 cellsP rfl rfl cellsI cellsI hf with ⟨hcs, _⟩ | ⟨a, len', cap', m, n, V0, V1, D0, D1, P0, P1, hcs, _, hl, hcm, hm, _, hi⟩
  · simp [Value.cells] at hcs
    obtain ⟨rfl, rfl, rfl⟩ := hcs
    exact ⟨none, 0, [], rfl, by simp, fun i hi => absurd hi (by simp)⟩
  · simp [Value.cells] at hcs
    obtain ⟨rfl, rfl, rfl⟩ := hcs
    have hml : len ≤ m := by rw [hm]; split <;> omega
    obtain ⟨l, hl'⟩ : ∃ l : List (Int × Int), l = (List.range len).map (fun i => ((match V0 i with | .int _ z => z | _ => 0), (match V1 i with | .int _ z => z | _ => 0))) := ⟨_, rfl⟩
    have hll : l.length = len := by rw [hl']; simp
    refine ⟨some a, cap, l, by rw [hll], by rw [hll]; unfold maxLen at hcm; omega, fun i hil => ?_⟩
    rw [hll] at hil
    obtain ⟨c0, c1, t0, t1⟩ := hi i (by omega)
    obtain ⟨z0, e0, _, _⟩ := DataW.trod_int Tryz.underlying3 t0
    obtain ⟨z1, e1, _, _⟩ := DataW.trod_int Tryz.underlying3 t1
    have e0' : V0 i = .int .i64 z0 := by simpa using e0
    have e1' : V1 i = .int .i64 z1 := by simpa using e1
    have hsp : a.spot = none := by
      obtain ⟨q0, _⟩ := hi 0 (by omega)
      unfold World.cell? at q0
      simp [Addr.add] at q0
      split at q0
      · split at q0
        · cases q0
        · rename_i hh; simpa using hh
      · cases q0
    have had : ∀ k, a.add k = ⟨a.block, a.off + k, none⟩ := fun k => by
      unfold Addr.add
      split
      · rename_i h0; subst h0; cases a; simp at hsp; subst hsp; rfl
      · rfl
    have hg : l.getD i (0, 0) = (z0, z1) := by
      rw [hl', List.getD_eq_getElem?_getD]
      simp [hil, e0', e1']
    rw [had] at c0 c1
    refine ⟨a.block, a.off, by cases a; simp at hsp; subst hsp; rfl, ?_, ?_⟩
    · rw [c0, e0', hg]
    · rw [hg, ← e1']; exact c1
end
end Go.Proofs.YtalhkcmlacppjaaGreatDoor.HFr

