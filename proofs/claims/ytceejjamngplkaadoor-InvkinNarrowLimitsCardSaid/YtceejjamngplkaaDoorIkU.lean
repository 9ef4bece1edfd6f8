/- What the frames of the laws of layer 8 share: the arguments, opened. -/
import Derived.Test.YtceejjamngplkaaDoorAmU
import Derived.Test.YtceejjamngplkaaDoorIkC
namespace Go.Proofs.YtceejjamngplkaaDoor.AFr
open Go.ChangeShapes Go.WideShapes Go.ChangeAt Go.RowKit Go.Deep
set_option maxRecDepth 100000
set_option linter.unusedVariables false
set_option linter.unusedSimpArgs false
theorem cellsD : Tryd.prog.cellsOf 29 = 3 := by kernel_rfl
section
variable {H : Type} {enc : TypeId × Value → H} {w : World} {base : Nat} {spare : Nat → Bool} {held : Bool}
theorem open_dir {r : Reach} {b0 : Nat} {v : Value} {d : DataW H} {p : List MemPlace} (hv : Value.okWide Tryd.prog w r b0 29 v) (h : DataW.Trod enc Tryd.prog w base spare held 29 v d p) :
    ∃ x y n : Int, v = .agg #[.int .i64 x, .int .i64 y, .int .i64 n] := by
  obtain ⟨cs, rfl, hsz⟩ := okWide_struct Tryd.underlying29 hv
  rw [cellsD] at hsz
  obtain ⟨l⟩ := cs
  obtain ⟨fuel, hf⟩ := h
  match l, hsz with
  | [c0, c1, c2], _ =>
    obtain ⟨xs, n, _, hx, _, hlen, hf⟩ := DataW.trod_struct Tryd.underlying29 hf
    match xs, hlen with
    | [y0, y1, y2], _ =>
      have g0 := hf 0 _ rfl
      have g1 := hf 1 _ rfl
      have g2 := hf 2 _ rfl
      simp [cellsI, Value.cells] at g0 g1 g2
      obtain ⟨a, ea, _, _⟩ := DataW.trod_int Tryd.underlying3 g0
      obtain ⟨b, eb, _, _⟩ := DataW.trod_int Tryd.underlying3 g1
      obtain ⟨c, ec, _, _⟩ := DataW.trod_int Tryd.underlying3 g2
      exact ⟨a, b, c, by rw [show c0 = .int .i64 a by simpa using ea, show c1 = .int .i64 b by simpa using eb, show c2 = .int .i64 c by simpa using ec]⟩
theorem open_pair16 {r : Reach} {b0 : Nat} {v : Value} {d : DataW H} {p : List MemPlace} (hv : Value.okWide Tryd.prog w r b0 55 v) (h : DataW.Trod enc Tryd.prog w base spare held 55 v d p) :
    ∃ a b : Int, v = .agg #[.int .i16 a, .int .i16 b] ∧ (-32768 ≤ a ∧ a ≤ 32767) ∧ (-32768 ≤ b ∧ b ≤ 32767) := by
  obtain ⟨cs, rfl, hsz⟩ : ∃ cs, v = .agg cs ∧ cs.size = Tryd.prog.cellsOf 55 := by
    simp only [Value.okWide, Tryd.underlying55] at hv
    obtain ⟨cs, h1, h2, _⟩ := hv
    exact ⟨cs, h1, h2⟩
  rw [show Tryd.prog.cellsOf 55 = 2 by kernel_rfl] at hsz
  obtain ⟨l⟩ := cs
  obtain ⟨fuel, hf⟩ := h
  match l, hsz with
  | [c0, c1], _ =>
    obtain ⟨a, b, ⟨rfl, rfl⟩, e0, e1⟩ := two Tryd.underlying55 Tryd.underlying54 (by kernel_rfl) hf
    exact ⟨a, b, rfl, wf16 e0, wf16 e1⟩
theorem open_jts {r : Reach} {b0 : Nat} {v : Value} {d : DataW H} {p : List MemPlace} (hv : Value.okWide Tryd.prog w r b0 31 v) (h : DataW.Trod enc Tryd.prog w base spare held 31 v d p) :
    ∃ (ao : Option Addr) (cap : Nat) (l : List J3), v = .slice ao l.length cap ∧ (l.length ≤ cap ∧ cap ≤ 9223372036854775807) ∧ PRow3 w ao l := by
  obtain ⟨ao, len, cap, rfl⟩ := okWide_slice Tryd.underlying31 hv
  obtain ⟨fuel, hf⟩ := h
  rcases open_slice Tryd.underlying31 hf with ⟨hcs, _⟩ | ⟨a, len', cap', m, n, D, Pl, hcs, _, hl, hcm, hm, _, hi⟩
  · simp [Value.cells] at hcs
    obtain ⟨rfl, rfl, rfl⟩ := hcs
    exact ⟨none, 0, [], rfl, by simp, prow3_nil _ _⟩
  · simp [Value.cells] at hcs
    obtain ⟨rfl, rfl, rfl⟩ := hcs
    have hml : len ≤ m := by rw [hm]; split <;> omega
    have key : ∀ i, i < len → ∃ q : J3, w.cell? ((a.add (i * 3)).add 0) = some (.int .i64 q.1) ∧ w.cell? ((a.add (i * 3)).add 1) = some (.int .i64 q.2.1) ∧ w.cell? ((a.add (i * 3)).add 2) = some (.int .i64 q.2.2) := fun i hil => by
      obtain ⟨cs', h1, h2⟩ := hi i (by omega)
      rw [cellsJ] at h1
      obtain ⟨_, hlen, hc⟩ := World.cells?_some h1
      match cs', hlen with
      | [c0, c1, c2], _ =>
        obtain ⟨x, y, z, ⟨rfl, rfl, rfl⟩, -⟩ := three Tryd.underlying25 Tryd.underlying3 cellsI h2
        exact ⟨(x, y, z), hc 0 (by omega), hc 1 (by omega), hc 2 (by omega)⟩
    obtain ⟨V, hV⟩ := choose_lt key
    have hll : ((List.range len).map V).length = len := by simp
    refine ⟨some a, cap, (List.range len).map V, by rw [hll], ⟨by rw [hll]; exact hl, by unfold maxLen at hcm; omega⟩, fun i hil => ?_⟩
    rw [hll] at hil
    have h0 := (hV 0 (by omega)).1
    rw [Nat.zero_mul, show (a.add 0).add 0 = a.add 0 by unfold Addr.add; simp] at h0
    obtain ⟨hsp, had⟩ := addr_flat h0
    have hg : ((List.range len).map V).getD i j0 = V i := by rw [List.getD_eq_getElem?_getD]; simp [hil]
    obtain ⟨c1, c2, c3⟩ := hV i hil
    have h3 : ∀ j k, (a.add j).add k = ⟨a.block, a.off + j + k, none⟩ := fun j k => by
      rw [had]
      unfold Addr.add
      split
      · rename_i e; subst e; rfl
      · rfl
    rw [h3] at c1 c2 c3
    exact ⟨a.block, a.off, by cases a; simp at hsp; subst hsp; rfl, by rw [hg]; exact c1, by rw [hg]; exact c2, by rw [hg]; exact c3⟩
end
end Go.Proofs.YtceejjamngplkaaDoor.AFr
