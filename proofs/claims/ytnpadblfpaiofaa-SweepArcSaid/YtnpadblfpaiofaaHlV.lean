/- Told values that last below; moved: a list of points translated. -/
import Derived.Test.YtnpadblfpaiofaaHlT
import Derived.Test.YtnpadblfpaiofaaHlE
import Derived.Test.YtnpadblfpaiofaaHlP
namespace Go.Proofs.Ytnpadblfpaiofaa
open Go.ChangeShapes Go.WideShapes Go.ChangeAt Go.RowKit
set_option linter.unusedVariables false
set_option linter.unusedSimpArgs false

/-- A relation of a value to a world that lasts while all below stays. -/
structure StP where
  C : Value → World → Prop
  keep : ∀ v w w', C v w → Below w.heap.size w w' → C v w'
abbrev ToldS := List (Option StP)
def RtS (sp : ToldS) (t : Nat) (v : Value) (w : World) : Prop :=
  match sp.getD t none with
  | none => True
  | some p => p.C v w
theorem rtS_keep (sp : ToldS) : ∀ t v w w', RtS sp t v w → Below w.heap.size w w' → RtS sp t v w' := fun t v w w' h hb => by
  unfold RtS at *
  split
  · trivial
  · rename_i p e; rw [e] at h; exact p.keep _ _ _ h hb
def eqS (x : Value) : StP := ⟨fun v _ => v = x, fun _ _ _ h _ => h⟩
def rowS (l : List (Int × Int)) : StP := ⟨fun v w => ∃ ao c, v = .slice ao l.length c ∧ PRow w ao l, fun _ _ _ ⟨ao, c, h, p⟩ hb => ⟨ao, c, h, prow_below p hb⟩⟩
def ownS (base : Nat) (l : List (Int × Int)) : StP := ⟨fun v w => w.ownsRow base 35 2 v l.length (flat l), fun _ _ _ h hb => own_bel h hb⟩
theorem get_eqS {T : Array Value} {sp : ToldS} {d : Nat} {w : World} {x : Value} (h : ∃ v, T[d]? = some v ∧ RtS sp d v w) (hs : sp.getD d none = some (eqS x)) : T[d]? = some x := by
  obtain ⟨v, hv, hr⟩ := h
  unfold RtS at hr
  rw [hs] at hr
  rw [hv]; exact congrArg some hr
theorem getS {T : Array Value} {sp : ToldS} {d : Nat} {w : World} {p : StP} (h : ∃ v, T[d]? = some v ∧ RtS sp d v w) (hs : sp.getD d none = some p) : ∃ v, T[d]? = some v ∧ p.C v w := by
  obtain ⟨v, hv, hr⟩ := h
  unfold RtS at hr
  rw [hs] at hr
  exact ⟨v, hv, hr⟩
theorem rt_eqS {sp : ToldS} {d : Nat} {w : World} {x : Value} (hs : sp.getD d none = some (eqS x)) : ∀ d', some d = some d' → RtS sp d' x w := fun d' h => by
  cases h; unfold RtS; rw [hs]; rfl
theorem rt_S {sp : ToldS} {d : Nat} {w : World} {p : StP} {v : Value} (hs : sp.getD d none = some p) (h : p.C v w) : ∀ d', some d = some d' → RtS sp d' v w := fun d' e => by
  cases e; unfold RtS; rw [hs]; exact h
def rowB (l : List (Int × Int)) : StP := ⟨fun v w => ∃ b c, v = .slice (some ⟨b, 0, none⟩) l.length c ∧ PRow w (some ⟨b, 0, none⟩) l, fun _ _ _ ⟨b, c, h, p⟩ hb => ⟨b, c, h, prow_below p hb⟩⟩
theorem app_fresh (w : World) (x y : Int) (c : Nat) : (rowB [(x, y)]).C (.slice (some ⟨w.heap.size, 0, none⟩) 1 c) (w.alloc (.cells #[.int .i64 x, .int .i64 y] 35)) :=
  ⟨_, _, rfl, prow_one (cbx _ _ _ _ 0 _ rfl rfl) (cbx _ _ _ _ 1 _ rfl rfl)⟩

end Go.Proofs.Ytnpadblfpaiofaa
