/- An append of a whole list onto a slice of no room: a new row that owns it. -/
import Derived.Test.YtjgkipgllpelhaaHlV
import Derived.SizedLaws
import Derived.Deep.SlicePairs
namespace Go.Proofs.Ytjgkipgllpelhaa
open Go.ChangeShapes Go.WideShapes Go.ChangeAt Go.RowKit
set_option linter.unusedVariables false
set_option linter.unusedSimpArgs false

def freshS (base : Nat) : StP := ⟨fun v w => ∃ g, v = .slice (some ⟨g, 0, none⟩) 0 0 ∧ base ≤ g ∧ w.heap[g]? = some (.cells #[] 35 (0, 0)), fun v w w' ⟨g, h1, h2, h3⟩ hb => ⟨g, h1, h2, by
  rw [hb.block g (by rcases Nat.lt_or_ge g w.heap.size with h | h; exact h; rw [Array.getElem?_eq_none h] at h3; cases h3)]; exact h3⟩⟩
theorem flat_news {w : World} {b o : Nat} {l : List (Int × Int)} (h : PRow w (some ⟨b, o, none⟩) l) : ∀ j u, (flat l)[j]? = some u → w.cell? ((⟨b, o, none⟩ : Addr).add j) = some u := fun j u hu => by
  have hj : j < l.length * 2 := by
    rw [← flat_len]
    exact (List.getElem?_eq_some_iff.1 hu).1
  have ha : (⟨b, o, none⟩ : Addr).add j = ⟨b, o + j, none⟩ := by
    unfold Addr.add
    split
    · rename_i e; subst e; rfl
    · rfl
  rw [ha]
  obtain ⟨i, hi⟩ : ∃ i, j = i * 2 ∨ j = i * 2 + 1 := ⟨j / 2, by omega⟩
  have hil : i < l.length := by omega
  obtain ⟨b', o', e, c1, c2⟩ := h i hil
  cases e
  obtain ⟨g1, g2⟩ := flat_get l i hil
  rcases hi with rfl | rfl
  · rw [g1] at hu; rw [c1]; exact hu
  · rw [g2] at hu; rw [show o + (i * 2 + 1) = o + i * 2 + 1 by omega, c2]; exact hu
theorem wp_append_new {P : Program} (w : World) {o : Oper} {a : Act} {K : Act → World → Prop} {Q : Exit → Act → World → Prop} (s x : Operand) (t : TypeId)
    (ho : o.op = .call { callee := .builtin .append, args := #[s, x], argTypes := #[t, t] })
    (base : Nat) (i : TypeInfo) (z : Value) (ht : P.underlying t = some (.slice 35)) (hi : P.info? 35 = some i) (hz : i.zero = some z)
    (hsize : i.size = 2) (hby : i.bytes = 16) (hzs : z.cells.size = 2)
    (g : Nat) (hs : a.eval s = .slice (some ⟨g, 0, none⟩) 0 0) (hbg : base ≤ g) (hg : w.heap[g]? = some (.cells #[] 35 (0, 0))) (hbase : base ≤ w.heap.size)
    (ao : Option Addr) (cap : Nat) (l : List (Int × Int)) (hx : a.eval x = .slice ao l.length cap) (hP : PRow w ao l) (h48 : l.length * 16 ≤ 140737488355328)
    (h : ∀ v' w', w'.ownsRow base 35 2 v' l.length (flat l) → Below w.heap.size w w' → K (a.put o.dst v') w') : o.wp P a w K Q := by
  have hsz : (flat l).length = l.length * 2 := flat_len l
  by_cases h0 : l.length = 0
  · obtain rfl : l = [] := List.eq_nil_of_length_eq_zero h0
    have hr : (Builtin.append_ #[t, t] o.type #[.slice (some ⟨g, 0, none⟩) 0 0, .slice ao 0 cap]).run P w = .ok (.slice (some ⟨g, 0, none⟩) 0 0) w := by
      cases ao <;> simp [Builtin.append_, run_underlying ht, sizeOf, typeInfo, hi, Builtin.lenOf, Builtin.firstCells, loadCells, loadCellsFrom, storeCells]
    unfold Oper.wp execOp
    simp only [ho, resolve, invoke, builtin, Sem.run_bind, Sem.run_pure, Result.andThen_ok, List.map_toArray, List.map_cons, List.map_nil, hs, hx, List.length_nil, hr]
    exact h _ _ ⟨by simp [flat], .inr ⟨g, 0, #[], rfl, hbg, hg, by simp, by simp, by simp, by simp [flat]⟩⟩ (Below.refl _ _)
  · obtain ⟨b, ob, hao, _, _⟩ := prow_at hP (i := 0) (by omega)
    subst hao
    have h63 : (((0 + l.length : Nat) : Int)) ≤ 9223372036854775807 := by omega
    have hr := run_append_grow (P := P) w t o.type 35 i z ht hi hz ⟨g, 0, none⟩ 0 0 [] (by simp) (by intro j v hv; simp at hv) ⟨b, ob, none⟩ l.length cap (flat l) (by rw [hsize, hsz]) (flat_news hP) (by omega) h63 (growslice_fits (by omega) (by rw [hby]; omega))
    have hlen : (flat l).length = (0 + l.length) * i.size := by rw [hsz, hsize]; omega
    have hge := grownCap_ge w (0 + l.length) 0 35
    have hcm : grownCap w (0 + l.length) 0 35 ≤ maxLen := grownCap_le_maxLen w (0 + l.length) 0 35 (by unfold maxLen; omega)
    unfold Oper.wp execOp
    simp only [ho, resolve, invoke, builtin, Sem.run_bind, Sem.run_pure, Result.andThen_ok, List.map_toArray, List.map_cons, List.map_nil, hs, hx, hr]
    refine h _ _ ?_ ((Below.refl _ w).drew.alloc (Nat.le_refl _) _)
    rw [Nat.zero_add] at hge hcm ⊢
    refine ⟨by rw [hsz], .inr ⟨w.heap.size, _, _, rfl, hbase, heap_alloc_new w.drew _, hge, hcm, ?_, ?_⟩⟩
    · simp only [Array.size_append, List.size_toArray, size_zeroCells, hzs, hsz, List.length_nil]
      omega
    · simp only [Array.toList_append, List.nil_append]
      rw [← hsz]
      exact List.take_left
theorem open_pts_len {H : Type} {enc : TypeId × Value → H} {w : World} {base : Nat} {spare : Nat → Bool} {held : Bool} {d : DataW H} {p : List MemPlace} {ao : Option Addr} {n cap : Nat} (h : DataW.Trod enc Try.prog w base spare held 22 (.slice ao n cap) d p) :
    n = 0 ∨ ∃ el sp, d = .slice el sp ∧ el.length = n := by
  obtain ⟨fuel, hf⟩ := h
  rcases Go.Deep.open_slice Try.underlying22 hf with ⟨hcs, _⟩ | ⟨a, len', cap', m, k, D, Pl, hcs, _, _, _, _, hx, _⟩
  · simp [Value.cells] at hcs; exact .inl hcs.2.1
  · simp [Value.cells] at hcs
    obtain ⟨rfl, rfl, rfl⟩ := hcs
    cases hx
    exact .inr ⟨_, _, rfl, by simp⟩
end Go.Proofs.Ytjgkipgllpelhaa
