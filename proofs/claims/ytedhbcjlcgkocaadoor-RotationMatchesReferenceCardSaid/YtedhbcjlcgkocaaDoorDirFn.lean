/- Dir of the statements of layer 1: the X axis turned by at most three of the listed rotations: for every slice a valid direction; nothing that was there is written. -/
import Derived.Test.YtedhbcjlcgkocaaDoorRefB
import Derived.ShutString
import Derived.ChangeOld
import Derived.StillTailTactics
namespace Go.Proofs.YtedhbcjlcgkocaaDoor
open Go.ChangeShapes Go.WideShapes Go.ChangeAt Go.RowKit

/-- What a walk is told of a slice of integers that came in. -/
def IsRow (k : IntKind) (w : World) (a : Option Addr) (len cap : Nat) (zs : List Int) : Prop :=
  (a = none ∧ len = 0 ∧ cap = 0 ∧ zs = []) ∨
  ∃ x, a = some x ∧ len ≤ cap ∧ cap ≤ maxLen ∧ zs.length = cap ∧ (∀ i, i < zs.length → w.cell? (x.add i) = some (.int k (zs.getD i 0))) ∧ ∀ n ∈ zs, (Lit.int k n).wf = true

theorem IsRow.below {k : IntKind} {w w' : World} {a : Option Addr} {len cap : Nat} {zs : List Int} (h : IsRow k w a len cap zs) (hb : Below w.heap.size w w') : IsRow k w' a len cap zs := by
  rcases h with h | ⟨x, h1, h2, h3, h4, h5, h6⟩
  · exact .inl h
  · exact .inr ⟨x, h1, h2, h3, h4, fun i hi => (hb.cell (World.block_lt_of_cell? w _ (h5 i hi))).trans (h5 i hi), h6⟩

/-- One element, as a walk asks for it. -/
theorem IsRow.elem {w : World} {a : Option Addr} {len cap : Nat} {zs : List Int} (h : IsRow .i64 w a len cap zs) {i : Nat} (hi : i < len) :
    ∃ b off, a = some ⟨b, off, none⟩ ∧ w.cell? ⟨b, off + i, none⟩ = some (.int .i64 (zs.getD i 0)) ∧ (-9223372036854775808 ≤ zs.getD i 0 ∧ zs.getD i 0 ≤ 9223372036854775807) ∧ len ≤ maxLen := by
  rcases h with ⟨_, h2, _⟩ | ⟨x, h1, h2, h3, h4, h5, h6⟩
  · omega
  · have hc := h5 i (by omega)
    obtain ⟨b, off, spot⟩ := x
    have hs : spot = none := by simpa [Addr.add] using World.cell?_spot (h5 0 (by omega))
    subst hs
    refine ⟨b, off, h1, ?_, wf64 (h6 _ ?_), by omega⟩
    · by_cases h0 : i = 0
      · subst h0; simpa [Addr.add] using hc
      · simpa [Addr.add, h0] using hc
    rw [List.getD_eq_getElem?_getD, List.getElem?_eq_getElem (by omega)]
    exact List.getElem_mem _

def DirPost (w : World) (e : Ending) (w' : World) : Prop := ∃ X Y N : Int, e = .returned (.agg #[.int .i64 X, .int .i64 Y, .int .i64 N]) ∧ vdB X Y N = true ∧ Below w.heap.size w w'
def DirRel (w : World) (k : Nat) (wr : World) : Prop := ∃ X Y : Int, vdB X Y k = true ∧ wr.cell? ⟨w.heap.size + 1, 0, none⟩ = some (.int .i64 X) ∧ wr.cell? ⟨w.heap.size + 1, 1, none⟩ = some (.int .i64 Y) ∧ wr.cell? ⟨w.heap.size + 1, 2, none⟩ = some (.int .i64 k)

theorem dir_short (a : Option Addr) (len cap : Nat) (zs : List Int) (w : World) (hr : IsRow .i64 w a len cap zs) (hl : len ≤ maxLen) :
    Calls Tryd.prog 11 #[.slice a len cap] w (DirPost w) := by
  unfold maxLen at hl
  go_enter Tryd.func11, Tryd.ntmps11
  go_wp2
  go_loopw [4] (fun i wr => ∃ k : Nat, k ≤ 3 ∧ k ≤ len ∧ i = .int .i64 k ∧ DirRel w k wr ∧ Below w.heap.size w wr ∧ w.heap.size + 1 < wr.heap.size ∧ (∀ o, wr.frozen? ⟨w.heap.size + 1, o, none⟩ = false) ∧ (∀ o, wr.frozen? ⟨w.heap.size, o, none⟩ = false) ∧ wr.cell? ⟨w.heap.size, 0, none⟩ = some (.int .i64 0) ∧ wr.cell? ⟨w.heap.size, 1, none⟩ = some (.int .i64 0) ∧ wr.cell? ⟨w.heap.size, 2, none⟩ = some (.int .i64 0)) (fun i _ => 3 - (intOf i).toNat)
  case atStart => exact ⟨0, by omega, by omega, rfl, ⟨1, 0, by decide, by simp, by simp, by simp⟩, by go_grown, by simp, fun o => by simp, fun o => by simp, by simp, by simp, by simp⟩
  case round =>
    obtain ⟨k, hk, hkl, rfl, ⟨X, Y, hv, d0, d1, d2⟩, hB, hz, hf, hg, r0, r1, r2⟩ := hrel
    have hy : w.heap.size < wr.heap.size := by omega
    by_cases hlt : k < len
    · by_cases h3 : k < 3
      · obtain ⟨b, off, rfl, he, hq, _⟩ := hr.elem hlt
        have hlb := World.block_lt_of_cell? w _ he
        have he' : wr.cell? ⟨b, off + k, none⟩ = some (.int .i64 (zs.getD k 0)) := (hB.cell (p := ⟨b, off + k, none⟩) hlb).trans he
        obtain ⟨c, s, E⟩ : ∃ c s : Int, Hid (csF (zs.getD k 0 % 36).toNat = (c, s)) := ⟨_, _, Lib.hid rfl⟩
        generalize zs.getD k 0 = q at *
        clear he
        go_wp2_with fail
        go_still_tail 5, (by kernel_rfl)
        change wpList _ _ _ _ _ wr.drew
        go_wp2_with fail
        refine (add_is X Y k q c s _ hv (by omega) hq E).mono ?_; rintro e w2 ⟨rfl, hb2⟩
        have hs2 : wr.heap.size ≤ w2.heap.size := hb2.size
        have hB2 : Below w.heap.size w w2 := hB.drew.trans (hb2.mono (Nat.le_of_lt hy))
        have hf2 : ∀ o, w2.frozen? ⟨w.heap.size + 1, o, none⟩ = false := fun o => (hb2.frozen (p := ⟨w.heap.size + 1, o, none⟩) (by simpa using hz)).trans (by simpa using hf o)
        have hg2 : ∀ o, w2.frozen? ⟨w.heap.size, o, none⟩ = false := fun o => (hb2.frozen (p := ⟨w.heap.size, o, none⟩) (by simpa using hy)).trans (by simpa using hg o)
        have e0 : w2.cell? ⟨w.heap.size + 1, 0, none⟩ = some (.int .i64 X) := (hb2.cell (p := ⟨w.heap.size + 1, 0, none⟩) (by simpa using hz)).trans (by simpa using d0)
        have e1 : w2.cell? ⟨w.heap.size + 1, 1, none⟩ = some (.int .i64 Y) := (hb2.cell (p := ⟨w.heap.size + 1, 1, none⟩) (by simpa using hz)).trans (by simpa using d1)
        have e2 : w2.cell? ⟨w.heap.size + 1, 2, none⟩ = some (.int .i64 k) := (hb2.cell (p := ⟨w.heap.size + 1, 2, none⟩) (by simpa using hz)).trans (by simpa using d2)
        have q0 : w2.cell? ⟨w.heap.size, 0, none⟩ = some (.int .i64 0) := (hb2.cell (p := ⟨w.heap.size, 0, none⟩) (by simpa using hy)).trans (by simpa using r0)
        have q1 : w2.cell? ⟨w.heap.size, 1, none⟩ = some (.int .i64 0) := (hb2.cell (p := ⟨w.heap.size, 1, none⟩) (by simpa using hy)).trans (by simpa using r1)
        have q2 : w2.cell? ⟨w.heap.size, 2, none⟩ = some (.int .i64 0) := (hb2.cell (p := ⟨w.heap.size, 2, none⟩) (by simpa using hy)).trans (by simpa using r2)
        have hz2 : w.heap.size + 1 < w2.heap.size := by omega
        have hv2 := Lib.hid (vd_step X Y k c s hv (by omega) (by have := len65 (q % 36).toNat (by omega); rw [E.out] at this; exact this))
        clear hf hg d0 d1 d2 r0 r1 r2 hb2
        go_wp2_with fail
        go_roundw
        case rel =>
          exact ⟨k + 1, by omega, by omega, by go_num, ⟨X * c - Y * s, X * s + Y * c, by have := hv2.out; rwa [show ((k + 1 : Nat) : Int) = (k : Int) + 1 by omega], by go_simp, by go_simp, by go_simp⟩, by go_grown, by simp; omega, fun o => by simp [hf2], fun o => by simp [hg2], by go_simp, by go_simp, by go_simp⟩
        case measure => simp [intOf]; omega
      · go_wp2_with fail
        refine bodyPost_ret (v := .agg #[.int .i64 X, .int .i64 Y, .int .i64 k]) (by simp [results, Tryd.results11, go_sem, r0, r1, r2]) rfl ?_
        exact ⟨X, Y, k, rfl, hv, by go_grown⟩
    · go_wp2_with fail
      refine bodyPost_ret (v := .agg #[.int .i64 X, .int .i64 Y, .int .i64 k]) (by simp [results, Tryd.results11, go_sem, r0, r1, r2]) rfl ?_
      exact ⟨X, Y, k, rfl, hv, by go_grown⟩
end Go.Proofs.YtedhbcjlcgkocaaDoor
