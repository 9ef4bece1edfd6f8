/- What the frames of the laws of layer 7 share: the arguments, opened. -/
import Derived.Test.YtceejjamngplkaaDoorHlFr
import Derived.Test.YtceejjamngplkaaDoorLaw
namespace Go.Proofs.YtceejjamngplkaaDoor.AFr
open Go.ChangeShapes Go.WideShapes Go.ChangeAt Go.RowKit Go.Deep
set_option maxRecDepth 100000
set_option linter.unusedVariables false
set_option linter.unusedSimpArgs false
theorem cellsA : Tryd.prog.cellsOf 27 = 12 := by kernel_rfl
theorem cells3 : Tryd.prog.cellsOf 24 = 3 := by kernel_rfl
theorem cellsJ : Tryd.prog.cellsOf 25 = 3 := by kernel_rfl
theorem cellsR : Tryd.prog.cellsOf 30 = 3 := by kernel_rfl
theorem cellsU : Tryd.prog.cellsOf 5 = 1 := by kernel_rfl
theorem cellsP : Tryd.prog.cellsOf 23 = 2 := by kernel_rfl
theorem cellsI : Tryd.prog.cellsOf 3 = 1 := by kernel_rfl
section
variable {H : Type} {enc : TypeId × Value → H} {w : World} {base : Nat} {spare : Nat → Bool} {held : Bool}
theorem three {k : IntKind} {t e : TypeId} (hu : Tryd.prog.underlying t = some (.array 3 e)) (he : Tryd.prog.underlying e = some (.int k)) (hc : Tryd.prog.cellsOf e = 1) {fuel : Nat} {c0 c1 c2 : Value} {x : DataW H × List MemPlace} (h : DataW.trod enc Tryd.prog w base spare held fuel t [c0, c1, c2] = some x) :
    ∃ a b c : Int, (c0 = .int k a ∧ c1 = .int k b ∧ c2 = .int k c) ∧ (Lit.int k a).wf = true ∧ (Lit.int k b).wf = true ∧ (Lit.int k c).wf = true := by
  obtain ⟨xs, m, _, _, _, hn, hel⟩ := DataW.trod_array hu h
  match xs, hn with
  | [y0, y1, y2], _ =>
    have e0 := hel 0 (by omega)
    have e1 := hel 1 (by omega)
    have e2 := hel 2 (by omega)
    simp [hc] at e0 e1 e2
    obtain ⟨a, ea, _, wa⟩ := DataW.trod_int he e0
    obtain ⟨b, eb, _, wb⟩ := DataW.trod_int he e1
    obtain ⟨c, ec, _, wc⟩ := DataW.trod_int he e2
    exact ⟨a, b, c, ⟨by simpa using ea, by simpa using eb, by simpa using ec⟩, wa, wb, wc⟩
theorem two {k : IntKind} {t e : TypeId} (hu : Tryd.prog.underlying t = some (.array 2 e)) (he : Tryd.prog.underlying e = some (.int k)) (hc : Tryd.prog.cellsOf e = 1) {fuel : Nat} {c0 c1 : Value} {x : DataW H × List MemPlace} (h : DataW.trod enc Tryd.prog w base spare held fuel t [c0, c1] = some x) :
    ∃ a b : Int, (c0 = .int k a ∧ c1 = .int k b) ∧ (Lit.int k a).wf = true ∧ (Lit.int k b).wf = true := by
  obtain ⟨xs, m, _, _, _, hn, hel⟩ := DataW.trod_array hu h
  match xs, hn with
  | [y0, y1], _ =>
    have e0 := hel 0 (by omega)
    have e1 := hel 1 (by omega)
    simp [hc] at e0 e1
    obtain ⟨a, ea, _, wa⟩ := DataW.trod_int he e0
    obtain ⟨b, eb, _, wb⟩ := DataW.trod_int he e1
    exact ⟨a, b, ⟨by simpa using ea, by simpa using eb⟩, wa, wb⟩
theorem pt_of {fuel : Nat} {c d : Value} {x : DataW H × List MemPlace} (h : DataW.trod enc Tryd.prog w base spare held fuel 23 [c, d] = some x) : ∃ a b : Int, c = .int .i64 a ∧ d = .int .i64 b := by
  obtain ⟨xs, n, _, hx, _, hlen, hf⟩ := DataW.trod_struct Tryd.underlying23 h
  match xs, hlen with
  | [y0, y1], _ =>
    have g0 := hf 0 _ rfl
    have g1 := hf 1 _ rfl
    simp [cellsI] at g0 g1
    obtain ⟨a, ea, _, _⟩ := DataW.trod_int Tryd.underlying3 g0
    obtain ⟨b, eb, _, _⟩ := DataW.trod_int Tryd.underlying3 g1
    exact ⟨a, b, by simpa using ea, by simpa using eb⟩
theorem open_arm {r : Reach} {b0 : Nat} {v : Value} {d : DataW H} {p : List MemPlace} (hv : Value.okWide Tryd.prog w r b0 27 v) (h : DataW.Trod enc Tryd.prog w base spare held 27 v d p) :
    ∃ X Y n0 n1 n2 W l0 l1 l2 h0 h1 h2 : Int, v = .agg #[.int .i64 X, .int .i64 Y, .int .i64 n0, .int .i64 n1, .int .i64 n2, .int .i64 W, .int .i64 l0, .int .i64 l1, .int .i64 l2, .int .i64 h0, .int .i64 h1, .int .i64 h2] := by
  obtain ⟨cs, rfl, hsz⟩ := okWide_struct Tryd.underlying27 hv
  rw [cellsA] at hsz
  obtain ⟨l⟩ := cs
  obtain ⟨fuel, hf⟩ := h
  match l, hsz with
  | [c0, c1, c2, c3, c4, c5, c6, c7, c8, c9, c10, c11], _ =>
    obtain ⟨xs, n, _, hx, _, hlen, hf⟩ := DataW.trod_struct Tryd.underlying27 hf
    match xs, hlen with
    | [y0, y1, y2, y3, y4], _ =>
      have g0 := hf 0 _ rfl
      have g1 := hf 1 _ rfl
      have g2 := hf 2 _ rfl
      have g3 := hf 3 _ rfl
      have g4 := hf 4 _ rfl
      simp [cellsI, cellsP, cells3, cellsJ, Value.cells] at g0 g1 g2 g3 g4
      obtain ⟨X, Y, rfl, rfl⟩ := pt_of g0
      obtain ⟨n0, n1, n2, ⟨rfl, rfl, rfl⟩, -⟩ := three Tryd.underlying24 Tryd.underlying3 cellsI g1
      obtain ⟨W, eW, _, _⟩ := DataW.trod_int Tryd.underlying3 g2
      obtain ⟨l0, l1, l2, ⟨rfl, rfl, rfl⟩, -⟩ := three Tryd.underlying25 Tryd.underlying3 cellsI g3
      obtain ⟨h0, h1, h2, ⟨rfl, rfl, rfl⟩, -⟩ := three Tryd.underlying25 Tryd.underlying3 cellsI g4
      exact ⟨X, Y, n0, n1, n2, W, l0, l1, l2, h0, h1, h2, by rw [show c5 = .int .i64 W by simpa using eW]⟩
theorem open_raw {r : Reach} {b0 : Nat} {v : Value} {d : DataW H} {p : List MemPlace} (hv : Value.okWide Tryd.prog w r b0 30 v) (h : DataW.Trod enc Tryd.prog w base spare held 30 v d p) :
    ∃ r0 r1 r2 : Int, v = .agg #[.int .u8 r0, .int .u8 r1, .int .u8 r2] ∧ (0 ≤ r0 ∧ r0 ≤ 255) ∧ (0 ≤ r1 ∧ r1 ≤ 255) ∧ (0 ≤ r2 ∧ r2 ≤ 255) := by
  obtain ⟨cs, rfl, hsz⟩ : ∃ cs, v = .agg cs ∧ cs.size = Tryd.prog.cellsOf 30 := by
    simp only [Value.okWide, Tryd.underlying30] at hv
    obtain ⟨cs, h1, h2, _⟩ := hv
    exact ⟨cs, h1, h2⟩
  rw [show Tryd.prog.cellsOf 30 = 3 by kernel_rfl] at hsz
  obtain ⟨l⟩ := cs
  obtain ⟨fuel, hf⟩ := h
  match l, hsz with
  | [c0, c1, c2], _ =>
    obtain ⟨r0, r1, r2, ⟨rfl, rfl, rfl⟩, e0, e1, e2⟩ := three Tryd.underlying30 Tryd.underlying5 (by kernel_rfl) hf
    exact ⟨r0, r1, r2, rfl, bounds_u8 e0, bounds_u8 e1, bounds_u8 e2⟩
theorem open_joints {r : Reach} {b0 : Nat} {v : Value} {d : DataW H} {p : List MemPlace} (hv : Value.okWide Tryd.prog w r b0 25 v) (h : DataW.Trod enc Tryd.prog w base spare held 25 v d p) :
    ∃ q0 q1 q2 : Int, v = .agg #[.int .i64 q0, .int .i64 q1, .int .i64 q2] ∧ (-9223372036854775808 ≤ q0 ∧ q0 ≤ 9223372036854775807) ∧ (-9223372036854775808 ≤ q1 ∧ q1 ≤ 9223372036854775807) ∧ (-9223372036854775808 ≤ q2 ∧ q2 ≤ 9223372036854775807) := by
  obtain ⟨cs, rfl, hsz⟩ : ∃ cs, v = .agg cs ∧ cs.size = Tryd.prog.cellsOf 25 := by
    simp only [Value.okWide, Tryd.underlying25] at hv
    obtain ⟨cs, h1, h2, _⟩ := hv
    exact ⟨cs, h1, h2⟩
  rw [show Tryd.prog.cellsOf 25 = 3 by kernel_rfl] at hsz
  obtain ⟨l⟩ := cs
  obtain ⟨fuel, hf⟩ := h
  match l, hsz with
  | [c0, c1, c2], _ =>
    obtain ⟨q0, q1, q2, ⟨rfl, rfl, rfl⟩, e0, e1, e2⟩ := three Tryd.underlying25 Tryd.underlying3 (by kernel_rfl) hf
    exact ⟨q0, q1, q2, rfl, wf64 e0, wf64 e1, wf64 e2⟩
theorem addr_flat {a : Addr} {v : Value} (h : w.cell? (a.add 0) = some v) : a.spot = none ∧ ∀ k, a.add k = ⟨a.block, a.off + k, none⟩ := by
  have hsp : a.spot = none := by
    unfold World.cell? at h
    simp [Addr.add] at h
    split at h
    · split at h
      · cases h
      · rename_i hh; simpa using hh
    · cases h
  refine ⟨hsp, fun k => ?_⟩
  unfold Addr.add
  split
  · rename_i h0; subst h0; cases a; simp at hsp; subst hsp; rfl
  · rfl
end
end Go.Proofs.YtceejjamngplkaaDoor.AFr
