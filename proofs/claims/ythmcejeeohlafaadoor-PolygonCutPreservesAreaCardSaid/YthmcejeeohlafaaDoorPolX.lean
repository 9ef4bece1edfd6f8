/- A region that draws its order, in the middle of a function: behind it the frame is concrete again. -/
import Derived.Test.YthmcejeeohlafaaDoorPolRegM
namespace Go.Proofs.YthmcejeeohlafaaDoor
open Go.ChangeShapes Go.WideShapes Go.ChangeAt Go.RowKit
set_option linter.unusedVariables false

theorem conc_aux {T : Array Value} : ∀ (l : List (Nat × Value)) (A : Array Value), A.size = T.size → (∀ p ∈ l, T[p.1]? = some p.2) → (∀ t, A[t]? = T[t]? ∨ ∃ p ∈ l, p.1 = t) → l.foldl (fun A p => A.setIfInBounds p.1 p.2) A = T
  | [], A, hs, hl, hA => by
    show A = T
    refine Array.ext hs fun i h1 h2 => ?_
    have := hA i
    rcases this with h | ⟨p, hp, _⟩
    · rw [Array.getElem?_eq_getElem h1, Array.getElem?_eq_getElem h2] at h
      exact Option.some.inj h
    · simp at hp
  | p :: l, A, hs, hl, hA => by
    refine conc_aux l _ (by simpa using hs) (fun q hq => hl q (List.mem_cons_of_mem _ hq)) fun t => ?_
    by_cases e : t = p.1
    · subst e
      left
      have h := hl p List.mem_cons_self
      have hlt : p.1 < T.size := by
        rcases Nat.lt_or_ge p.1 T.size with g | g
        · exact g
        · rw [Array.getElem?_eq_none g] at h; cases h
      rw [h, Array.getElem?_setIfInBounds_self_of_lt (by omega)]
    · rcases hA t with h | ⟨q, hq, e2⟩
      · left
        rw [Array.getElem?_setIfInBounds_ne (by omega)]
        exact h
      · rcases List.mem_cons.1 hq with rfl | hq
        · exact absurd e2.symm e
        · exact .inr ⟨q, hq, e2⟩
theorem conc {T T0 : Array Value} {ops : Array Oper} {m : Nat} (l : List (Nat × Value)) (hs : T.size = T0.size) (hF : ∀ t, FreeM ops m t → T[t]? = T0[t]?) (hl : ∀ p ∈ l, T[p.1]? = some p.2) (hc : ((List.range m).all fun j => (dstOf ops j).all fun t => l.any fun p => p.1 == t) = true) : T = l.foldl (fun A p => A.setIfInBounds p.1 p.2) T0 := by
  refine (conc_aux l T0 hs.symm hl fun t => ?_).symm
  by_cases h : FreeM ops m t
  · exact .inl (hF t h).symm
  · right
    obtain ⟨j, hj⟩ := Classical.not_forall.1 h
    obtain ⟨hjm, hd⟩ := Classical.not_imp.1 hj
    have hd : dstOf ops j = some t := Classical.not_not.1 hd
    have := List.all_eq_true.1 hc j (List.mem_range.2 hjm)
    rw [hd] at this
    obtain ⟨p, hp, e⟩ := List.any_eq_true.1 (show (l.any fun p => p.1 == t) = true from this)
    exact ⟨p, hp, by simpa using e⟩
/-- The same for a region whose operations are all told. -/
theorem concF {T T0 : Array Value} {ops : Array Oper} (l : List (Nat × Value)) (hs : T.size = T0.size) (hF : ∀ t, Free ops t → T[t]? = T0[t]?) (hl : ∀ p ∈ l, T[p.1]? = some p.2) (hc : ((List.range ops.size).all fun j => (dstOf ops j).all fun t => l.any fun p => p.1 == t) = true) : T = l.foldl (fun A p => A.setIfInBounds p.1 p.2) T0 :=
  conc l hs (fun t ht => hF t (fun j hj => by
    by_cases h : j < ops.size
    · exact ht j h hj
    · unfold dstOf at hj
      rw [Array.getElem?_eq_none (by omega)] at hj
      cases hj)) hl hc
end Go.Proofs.YthmcejeeohlafaaDoor
