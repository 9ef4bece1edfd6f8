/- Helpers: what the law reaches. -/
import Derived.Test.YtalhkcmlacppjaaGreatDoorZlHlFr
import Derived.Test.YtalhkcmlacppjaaGreatDoorZlDirs
namespace Go.Proofs.YtalhkcmlacppjaaGreatDoor.AFr
open Go.ChangeShapes Go.WideShapes Go.ChangeAt Go.RowKit Go.Deep
set_option maxRecDepth 100000
set_option linter.unusedVariables false
set_option linter.unusedSimpArgs false
theorem cellsA : Tryz.prog.cellsOf 27 = 12 := by kernel_rfl
theorem cells3 : Tryz.prog.cellsOf 24 = 3 := by kernel_rfl
theorem cellsJ : Tryz.prog.cellsOf 25 = 3 := by kernel_rfl
theorem cellsP : Tryz.prog.cellsOf 23 = 2 := by kernel_rfl
theorem cellsI : Tryz.prog.cellsOf 3 = 1 := by kernel_rfl
section
variable {H : Type} {enc : TypeId × Value → H} {w : World} {base : Nat} {spare : Nat → Bool} {held : Bool}
theorem three {k : IntKind} {t e : TypeId} (hu : Tryz.prog.underlying t = some (.array 3 e)) (he : Tryz.prog.underlying e = some (.int k)) (hc : Tryz.prog.cellsOf e = 1) {fuel : Nat} {c0 c1 c2 : Value} {x : DataW H × List MemPlace} (h : DataW.trod enc Tryz.prog w base spare held fuel t [c0, c1, c2] = some x) :
    ∃ a b c : Int, (c0 = .int k a ∧ c1 = .int k b ∧ c2 = .int k c) ∧ (Lit.int k a).wf = true ∧ (Lit.int k b).wf = true ∧ (Lit.int k c).wf = true := by
  obtain ⟨xs, m, _, _, _, hn, hel⟩ := DataW.trod_array hu h
  match xs, hn with
  | [y0, y1, y2], _ =>
    have e0 := hel 0 (by omega)
    have e1 := hel 1 (by omega)
    have e2 := hel 2 (by omega)
    simp [hc] at e0 e1 e2
    obtain ⟨a, ea, _, wa⟩ := DataW.trod_int he e0
    obtain ⟨b, eb, _, wb⟩ := DataW.trod_int he e1
    obtain ⟨c, ec, _, wc⟩ := DataW.trod_int he e2
    exact ⟨a, b, c, ⟨by simpa using ea, by simpa using eb, by simpa using ec⟩, wa, wb, wc⟩
theorem two {k : IntKind} {t e : TypeId} (hu : Tryz.prog.underlying t = some (.array 2 e)) (he : Tryz.prog.underlying e = some (.int k)) (hc : Tryz.prog.cellsOf e = 1) {fuel : Nat} {c0 c1 : Value} {x : DataW H × List MemPlace} (h : DataW.trod enc Tryz.prog w base spare held fuel t [c0, c1] = some x) :
    ∃ a b : Int, (c0 = .int k a ∧ c1 = .int k b) ∧ (Lit.int k a).wf = true ∧ (Lit.int k b).wf = true := by
  obtain ⟨xs, m, _, _, _, hn, hel⟩ := DataW.trod_array hu h
  match xs, hn with
  | [y0, y1], _ =>
    have e0 := hel 0 (by omega)
    have e1 := hel 1 (by omega)
    simp [hc] at e0 e1
    obtain ⟨a, ea, _, wa⟩ := DataW.trod_int he e0
    obtain ⟨b, eb, _, wb⟩ := DataW.trod_int he e1
    exact ⟨a, b, ⟨by simpa using ea, by simpa using eb⟩, wa, wb⟩
theorem pt_of {fuel : Nat} {c d : Value} {x : DataW H × List MemPlace} (h : DataW.trod enc Tryz.prog w base spare held fuel 23 [c, d] = some x) : ∃ a b : Int, c = .int .i64 a ∧ d = .int .i64 b := by
  obtain ⟨xs, n, _, hx, _, hlen, hf⟩ := DataW.trod_struct Tryz.underlying23 h
  match xs, hlen with
  | [y0, y1], _ =>
    have g0 := hf 0 _ rfl
    have g1 := hf 1 _ rfl
    simp [cellsI] at g0 g1
    obtain ⟨a, ea, _, _⟩ := DataW.trod_int Tryz.underlying3 g0
    obtain ⟨b, eb, _, _⟩ := DataW.trod_int Tryz.underlying3 g1
    exact ⟨a, b, by simpa using ea, by simpa using eb⟩
theorem open_arm {r : Reach} {b0 : Nat} {v : Value} {d : DataW H} {p : List MemPlace} (hv : Value.okWide Tryz.prog w r b0 27 v) (h : DataW.Trod enc Tryz.prog w base spare held 27 v d p) :
    ∃ X Y n0 n1 n2 W l0 l1 l2 h0 h1 h2 : Int, v = .agg #[.int .i64 X, .int .i64 Y, .int .i64 n0, .int .i64 n1, .int .i64 n2, .int .i64 W, .int .i64 l0, .int .i64 l1, .int .i64 l2, .int .i64 h0, .int .i64 h1, .int .i64 h2] := by
  obtain ⟨cs, rfl, hsz⟩ := okWide_struct Tryz.underlying27 hv
  rw [cellsA] at hsz
  obtain ⟨l⟩ := cs
  obtain ⟨fuel, hf⟩ := h
  match l, hsz with
  | [c0, c1, c2, c3, c4, c5, c6, c7, c8, c9, c10, c11], _ =>
    obtain ⟨xs, n, _, hx, _, hlen, hf⟩ := DataW.trod_struct Tryz.underlying27 hf
    match xs, hlen with
    | [y0, y1, y2, y3, y4], _ =>
      have g0 := hf 0 _ rfl
      have g1 := hf 1 _ rfl
      have g2 := hf 2 _ rfl
      have g3 := hf 3 _ rfl
      have g4 := hf 4 _ rfl
      simp [cellsI, cellsP, cells3, cellsJ, Value.cells] at g0 g1 g2 g3 g4
      obtain ⟨X, Y, rfl, rfl⟩ := pt_of g0
      obtain ⟨n0, n1, n2, ⟨rfl, rfl, rfl⟩, -⟩ := three Tryz.underlying24 Tryz.underlying3 cellsI g1
      obtain ⟨W, eW, _, _⟩ := DataW.trod_int Tryz.underlying3 g2
      obtain ⟨l0, l1, l2, ⟨rfl, rfl, rfl⟩, -⟩ := three Tryz.underlying25 Tryz.underlying3 cellsI g3
      obtain ⟨h0, h1, h2, ⟨rfl, rfl, rfl⟩, -⟩ := three Tryz.underlying25 Tryz.underlying3 cellsI g4
      exact ⟨X, Y, n0, n1, n2, W, l0, l1, l2, h0, h1, h2, by rw [show c5 = .int .i64 W by simpa using eW]⟩
theorem open_raw {r : Reach} {b0 : Nat} {v : Value} {d : DataW H} {p : List MemPlace} (hv : Value.okWide Tryz.prog w r b0 28 v) (h : DataW.Trod enc Tryz.prog w base spare held 28 v d p) :
    ∃ r0 r1 r2 : Int, v = .agg #[.int .u8 r0, .int .u8 r1, .int .u8 r2] ∧ (0 ≤ r0 ∧ r0 ≤ 255) ∧ (0 ≤ r1 ∧ r1 ≤ 255) ∧ (0 ≤ r2 ∧ r2 ≤ 255) := by
  obtain ⟨cs, rfl, hsz⟩ : ∃ cs, v = .agg cs ∧ cs.size = Tryz.prog.cellsOf 28 := by
    simp only [Value.okWide, Tryz.underlying28] at hv
    obtain ⟨cs, h1, h2, _⟩ := hv
    exact ⟨cs, h1, h2⟩
  rw [show Tryz.prog.cellsOf 28 = 3 by kernel_rfl] at hsz
  obtain ⟨l⟩ := cs
  obtain ⟨fuel, hf⟩ := h
  match l, hsz with
  | [c0, c1, c2], _ =>
    obtain ⟨r0, r1, r2, ⟨rfl, rfl, rfl⟩, e0, e1, e2⟩ := three Tryz.underlying28 Tryz.underlying5 (by kernel_rfl) hf
    exact ⟨r0, r1, r2, rfl, bounds_u8 e0, bounds_u8 e1, bounds_u8 e2⟩
end
end Go.Proofs.YtalhkcmlacppjaaGreatDoor.AFr

