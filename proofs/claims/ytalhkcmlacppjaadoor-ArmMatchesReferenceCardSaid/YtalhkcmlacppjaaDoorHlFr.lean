/- What the frames of the laws of layer 4 share: the arguments, opened. -/
import Derived.Test.YtalhkcmlacppjaaDoorHp
import Derived.WalkKit
import Derived.ProofKit
import Derived.OpenShut
import Derived.ShutString
import Derived.ChangeOld
import Derived.ChangeSlices
import Derived.Below
import Derived.Carry
import Derived.Lib.SmallJoins
import Derived.Deep.SlicePairs
namespace Go.Proofs.YtalhkcmlacppjaaDoor
open Go.RowKit
/-- A slice of bytes that reads as the list zs. -/
def URow (w : World) (ao : Option Addr) (zs : List Int) : Prop := ∀ i, i < zs.length → ∃ b o, ao = some ⟨b, o, none⟩ ∧ w.cell? ⟨b, o + i, none⟩ = some (.int .u8 (zs.getD i 0)) ∧ 0 ≤ zs.getD i 0 ∧ zs.getD i 0 ≤ 255
theorem urow_below {w w' : World} {ao : Option Addr} {l : List Int} (h : URow w ao l) (hb : Below w.heap.size w w') : URow w' ao l := fun i hi => by
  obtain ⟨b, o, e, c, d⟩ := h i hi
  exact ⟨b, o, e, (hb.cell (World.block_lt_of_cell? w _ c)).trans c, d⟩
end Go.Proofs.YtalhkcmlacppjaaDoor
namespace Go.Proofs.YtalhkcmlacppjaaDoor.HFr
open Go.ChangeShapes Go.WideShapes Go.ChangeAt Go.RowKit Go.Deep

theorem own : ownKnob Tryd.prog.godebug = none := by kernel_rfl
theorem laidOut : laidOutB Tryd.prog = true := by kernel_rfl
theorem cellsP : Tryd.prog.cellsOf 23 = 2 := by kernel_rfl
theorem cellsI : Tryd.prog.cellsOf 3 = 1 := by kernel_rfl

section
variable {H : Type} {enc : TypeId × Value → H} {w : World} {base : Nat} {spare : Nat → Bool} {held : Bool}

set_option maxRecDepth 100000 in
theorem pt_of_trod {fuel : Nat} {c d : Value} {x : DataW H × List MemPlace} (h : DataW.trod enc Tryd.prog w base spare held fuel 23 [c, d] = some x) : ∃ a b : Int, c = .int .i64 a ∧ d = .int .i64 b := by
  obtain ⟨xs, n, _, hx, _, hlen, hf⟩ := DataW.trod_struct Tryd.underlying23 h
  match xs, hlen with
  | [y0, y1], _ =>
    have g0 := hf 0 _ rfl
    have g1 := hf 1 _ rfl
    simp [cellsI] at g0 g1
    obtain ⟨a, ea, _, _⟩ := DataW.trod_int Tryd.underlying3 g0
    obtain ⟨b, eb, _, _⟩ := DataW.trod_int Tryd.underlying3 g1
    exact ⟨a, b, by simpa using ea, by simpa using eb⟩

set_option maxRecDepth 100000 in
theorem open_pt {r : Reach} {b0 : Nat} {v : Value} {d : DataW H} {p : List MemPlace} (hv : Value.okWide Tryd.prog w r b0 23 v) (h : DataW.Trod enc Tryd.prog w base spare held 23 v d p) :
    ∃ x y : Int, v = .agg #[.int .i64 x, .int .i64 y] := by
  obtain ⟨cs, rfl, hsz⟩ := okWide_struct Tryd.underlying23 hv
  rw [cellsP] at hsz
  obtain ⟨l⟩ := cs
  obtain ⟨fuel, hf⟩ := h
  match l, hsz with
  | [c0, c1], _ =>
    obtain ⟨x, y, rfl, rfl⟩ := pt_of_trod hf
    exact ⟨x, y, rfl⟩

set_option maxRecDepth 100000 in
theorem open_poly {r : Reach} {b0 : Nat} {v : Value} {d : DataW H} {p : List MemPlace} (hv : Value.okWide Tryd.prog w r b0 34 v) (h : DataW.Trod enc Tryd.prog w base spare held 34 v d p) :
    ∃ (ao : Option Addr) (cap : Nat) (l : List (Int × Int)), v = .slice ao l.length cap ∧ l.length ≤ 9223372036854775807 ∧ PRow w ao l := by
  obtain ⟨ao, len, cap, rfl⟩ := okWide_slice Tryd.underlying34 hv
  obtain ⟨fuel, hf⟩ := h
  rcases open_slice_pairs Tryd.underlying34 Tryd.underlying23 cellsP rfl rfl cellsI cellsI hf with ⟨hcs, _⟩ | ⟨a, len', cap', m, n, V0, V1, D0, D1, P0, P1, hcs, _, hl, hcm, hm, _, hi⟩
  · simp [Value.cells] at hcs
    obtain ⟨rfl, rfl, rfl⟩ := hcs
    exact ⟨none, 0, [], rfl, by simp, fun i hi => absurd hi (by simp)⟩
  · simp [Value.cells] at hcs
    obtain ⟨rfl, rfl, rfl⟩ := hcs
    have hml : len ≤ m := by rw [hm]; split <;> omega
    obtain ⟨l, hl'⟩ : ∃ l : List (Int × Int), l = (List.range len).map (fun i => ((match V0 i with | .int _ z => z | _ => 0), (match V1 i with | .int _ z => z | _ => 0))) := ⟨_, rfl⟩
    have hll : l.length = len := by rw [hl']; simp
    refine ⟨some a, cap, l, by rw [hll], by rw [hll]; unfold maxLen at hcm; omega, fun i hil => ?_⟩
    rw [hll] at hil
    obtain ⟨c0, c1, t0, t1⟩ := hi i (by omega)
    obtain ⟨z0, e0, _, _⟩ := DataW.trod_int Tryd.underlying3 t0
    obtain ⟨z1, e1, _, _⟩ := DataW.trod_int Tryd.underlying3 t1
    have e0' : V0 i = .int .i64 z0 := by simpa using e0
    have e1' : V1 i = .int .i64 z1 := by simpa using e1
    have hsp : a.spot = none := by
      obtain ⟨q0, _⟩ := hi 0 (by omega)
      unfold World.cell? at q0
      simp [Addr.add] at q0
      split at q0
      · split at q0
        · cases q0
        · rename_i hh; simpa using hh
      · cases q0
    have had : ∀ k, a.add k = ⟨a.block, a.off + k, none⟩ := fun k => by
      unfold Addr.add
      split
      · rename_i h0; subst h0; cases a; simp at hsp; subst hsp; rfl
      · rfl
    have hg : l.getD i (0, 0) = (z0, z1) := by
      rw [hl', List.getD_eq_getElem?_getD]
      simp [hil, e0', e1']
    rw [had] at c0 c1
    refine ⟨a.block, a.off, by cases a; simp at hsp; subst hsp; rfl, ?_, ?_⟩
    · rw [c0, e0', hg]
    · rw [hg, ← e1']; exact c1
set_option maxRecDepth 100000 in
theorem open_polyc {r : Reach} {b0 : Nat} {v : Value} {d : DataW H} {p : List MemPlace} (hv : Value.okWide Tryd.prog w r b0 34 v) (h : DataW.Trod enc Tryd.prog w base spare held 34 v d p) :
    ∃ (ao : Option Addr) (cap : Nat) (l : List (Int × Int)), v = .slice ao l.length cap ∧ (l.length ≤ 9223372036854775807 ∧ l.length ≤ cap) ∧ PRow w ao l := by
  obtain ⟨ao, len, cap, rfl⟩ := okWide_slice Tryd.underlying34 hv
  obtain ⟨fuel, hf⟩ := h
  rcases open_slice_pairs Tryd.underlying34 Tryd.underlying23 cellsP rfl rfl cellsI cellsI hf with ⟨hcs, _⟩ | ⟨a, len', cap', m, n, V0, V1, D0, D1, P0, P1, hcs, _, hl, hcm, hm, _, hi⟩
  · simp [Value.cells] at hcs
    obtain ⟨rfl, rfl, rfl⟩ := hcs
    exact ⟨none, 0, [], rfl, ⟨by simp, by simp⟩, fun i hi => absurd hi (by simp)⟩
  · simp [Value.cells] at hcs
    obtain ⟨rfl, rfl, rfl⟩ := hcs
    have hml : len ≤ m := by rw [hm]; split <;> omega
    obtain ⟨l, hl'⟩ : ∃ l : List (Int × Int), l = (List.range len).map (fun i => ((match V0 i with | .int _ z => z | _ => 0), (match V1 i with | .int _ z => z | _ => 0))) := ⟨_, rfl⟩
    have hll : l.length = len := by rw [hl']; simp
    refine ⟨some a, cap, l, by rw [hll], ⟨by rw [hll]; unfold maxLen at hcm; omega, by rw [hll]; omega⟩, fun i hil => ?_⟩
    rw [hll] at hil
    obtain ⟨c0, c1, t0, t1⟩ := hi i (by omega)
    obtain ⟨z0, e0, _, _⟩ := DataW.trod_int Tryd.underlying3 t0
    obtain ⟨z1, e1, _, _⟩ := DataW.trod_int Tryd.underlying3 t1
    have e0' : V0 i = .int .i64 z0 := by simpa using e0
    have e1' : V1 i = .int .i64 z1 := by simpa using e1
    have hsp : a.spot = none := by
      obtain ⟨q0, _⟩ := hi 0 (by omega)
      unfold World.cell? at q0
      simp [Addr.add] at q0
      split at q0
      · split at q0
        · cases q0
        · rename_i hh; simpa using hh
      · cases q0
    have had : ∀ k, a.add k = ⟨a.block, a.off + k, none⟩ := fun k => by
      unfold Addr.add
      split
      · rename_i h0; subst h0; cases a; simp at hsp; subst hsp; rfl
      · rfl
    have hg : l.getD i (0, 0) = (z0, z1) := by
      rw [hl', List.getD_eq_getElem?_getD]
      simp [hil, e0', e1']
    rw [had] at c0 c1
    refine ⟨a.block, a.off, by cases a; simp at hsp; subst hsp; rfl, ?_, ?_⟩
    · rw [c0, e0', hg]
    · rw [hg, ← e1']; exact c1
set_option maxRecDepth 100000 in
theorem open_pts {r : Reach} {b0 : Nat} {v : Value} {d : DataW H} {p : List MemPlace} (hv : Value.okWide Tryd.prog w r b0 33 v) (h : DataW.Trod enc Tryd.prog w base spare held 33 v d p) :
    ∃ (ao : Option Addr) (cap : Nat) (l : List (Int × Int)), v = .slice ao l.length cap ∧ l.length ≤ 9223372036854775807 ∧ PRow w ao l := by
  obtain ⟨ao, len, cap, rfl⟩ := okWide_slice Tryd.underlying33 hv
  obtain ⟨fuel, hf⟩ := h
  rcases open_slice_pairs Tryd.underlying33 Tryd.underlying23 cellsP rfl rfl cellsI cellsI hf with ⟨hcs, _⟩ | ⟨a, len', cap', m, n, V0, V1, D0, D1, P0, P1, hcs, _, hl, hcm, hm, _, hi⟩
  · simp [Value.cells] at hcs
    obtain ⟨rfl, rfl, rfl⟩ := hcs
    exact ⟨none, 0, [], rfl, by simp, fun i hi => absurd hi (by simp)⟩
  · simp [Value.cells] at hcs
    obtain ⟨rfl, rfl, rfl⟩ := hcs
    have hml : len ≤ m := by rw [hm]; split <;> omega
    obtain ⟨l, hl'⟩ : ∃ l : List (Int × Int), l = (List.range len).map (fun i => ((match V0 i with | .int _ z => z | _ => 0), (match V1 i with | .int _ z => z | _ => 0))) := ⟨_, rfl⟩
    have hll : l.length = len := by rw [hl']; simp
    refine ⟨some a, cap, l, by rw [hll], by rw [hll]; unfold maxLen at hcm; omega, fun i hil => ?_⟩
    rw [hll] at hil
    obtain ⟨c0, c1, t0, t1⟩ := hi i (by omega)
    obtain ⟨z0, e0, _, _⟩ := DataW.trod_int Tryd.underlying3 t0
    obtain ⟨z1, e1, _, _⟩ := DataW.trod_int Tryd.underlying3 t1
    have e0' : V0 i = .int .i64 z0 := by simpa using e0
    have e1' : V1 i = .int .i64 z1 := by simpa using e1
    have hsp : a.spot = none := by
      obtain ⟨q0, _⟩ := hi 0 (by omega)
      unfold World.cell? at q0
      simp [Addr.add] at q0
      split at q0
      · split at q0
        · cases q0
        · rename_i hh; simpa using hh
      · cases q0
    have had : ∀ k, a.add k = ⟨a.block, a.off + k, none⟩ := fun k => by
      unfold Addr.add
      split
      · rename_i h0; subst h0; cases a; simp at hsp; subst hsp; rfl
      · rfl
    have hg : l.getD i (0, 0) = (z0, z1) := by
      rw [hl', List.getD_eq_getElem?_getD]
      simp [hil, e0', e1']
    rw [had] at c0 c1
    refine ⟨a.block, a.off, by cases a; simp at hsp; subst hsp; rfl, ?_, ?_⟩
    · rw [c0, e0', hg]
    · rw [hg, ← e1']; exact c1

theorem addr_flat {a : Addr} {v : Value} (h : w.cell? (a.add 0) = some v) : a.spot = none ∧ ∀ k, a.add k = ⟨a.block, a.off + k, none⟩ := by
  have hsp : a.spot = none := by
    unfold World.cell? at h
    simp [Addr.add] at h
    split at h
    · split at h
      · cases h
      · rename_i hh; simpa using hh
    · cases h
  refine ⟨hsp, fun k => ?_⟩
  unfold Addr.add
  split
  · rename_i h0; subst h0; cases a; simp at hsp; subst hsp; rfl
  · rfl
end
end Go.Proofs.YtalhkcmlacppjaaDoor.HFr
