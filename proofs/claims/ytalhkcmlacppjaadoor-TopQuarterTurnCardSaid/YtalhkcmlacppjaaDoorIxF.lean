/- Contracts of package intersect: Polygons, IsSeparating, IsContact; SeparatingEdge and FindContact at named results. Conditions: the slices read as the lists say; the coordinates are in range. -/
import Derived.Test.YtalhkcmlacppjaaDoorIxE
namespace Go.Proofs.YtalhkcmlacppjaaDoor
open Go.ChangeShapes Go.WideShapes Go.ChangeAt Go.RowKit
set_option linter.unusedVariables false
set_option linter.unusedSimpArgs false

theorem conT_touch (a b : List (Int × Int)) : (conT a b).2.2.2 = touchB a b := by
  have f : ∀ (p : Nat → Bool) (n : Nat), decide (0 ≤ firstI p n) = (List.range n).any p := fun p n => by
    rcases firstI_cases p n with ⟨e, h⟩ | ⟨k, hk, e, h, _⟩
    · rw [e, List.any_eq_false.2 fun j hj => by rw [h j (List.mem_range.1 hj)]; simp]; rfl
    · rw [e, List.any_eq_true.2 ⟨k, List.mem_range.2 hk, h⟩, decide_eq_true (by omega)]
  have e1 : decide (0 ≤ firstI (rowE a b) a.length) = anyE a b := f _ _
  have e2 : decide (0 ≤ firstI (inC a b) a.length) = anyC a b := f _ _
  have e3 : decide (0 ≤ firstI (inC b a) b.length) = anyC b a := f _ _
  unfold touchB conT
  rw [← e1, ← e2, ← e3]
  by_cases g1 : 0 ≤ firstI (rowE a b) a.length
  · rw [if_pos g1, decide_eq_true g1]; rfl
  · rw [if_neg g1, decide_eq_false g1]
    by_cases g2 : 0 ≤ firstI (inC a b) a.length
    · rw [if_pos g2, decide_eq_true g2]; rfl
    · rw [if_neg g2, decide_eq_false g2]
      by_cases g3 : 0 ≤ firstI (inC b a) b.length
      · rw [if_pos g3, decide_eq_true g3]; rfl
      · rw [if_neg g3, decide_eq_false g3]; rfl
theorem sepT_apart (a b : List (Int × Int)) : (sepT a b).2.2 = apartB a b := by
  have f : ∀ (p : Nat → Bool) (n : Nat), decide (0 ≤ firstI p n) = (List.range n).any p := fun p n => by
    rcases firstI_cases p n with ⟨e, h⟩ | ⟨k, hk, e, h, _⟩
    · rw [e, List.any_eq_false.2 fun j hj => by rw [h j (List.mem_range.1 hj)]; simp]; rfl
    · rw [e, List.any_eq_true.2 ⟨k, List.mem_range.2 hk, h⟩, decide_eq_true (by omega)]
  have e1 : decide (0 ≤ firstI (rightB a b) a.length) = anyR a b := f _ _
  have e2 : decide (0 ≤ firstI (rightB b a) b.length) = anyR b a := f _ _
  unfold apartB sepT
  rw [← e1, ← e2]
  by_cases g1 : 0 ≤ firstI (rightB a b) a.length
  · rw [if_pos g1, decide_eq_true g1]; rfl
  · rw [if_neg g1, decide_eq_false g1]
    by_cases g2 : 0 ≤ firstI (rightB b a) b.length
    · rw [if_pos g2, decide_eq_true g2]; rfl
    · rw [if_neg g2, decide_eq_false g2]; rfl

theorem contact_is (ao bo : Option Addr) (n m ca cb : Nat) (a b : List (Int × Int)) (k i j : Int) (t : Bool) (w : World) (hn : a.length = n) (hm : b.length = m) (hc : Hid (conT a b = (k, i, j, t))) (h0 : 0 < n) (h0' : 0 < m) (hle : n ≤ 12) (hle' : m ≤ 12) (hA : PRow w ao a) (hB : PRow w bo b) (va : AllR2 a) (vb : AllR2 b) :
    Calls Tryd.prog 59 #[.slice ao n ca, .slice bo m cb] w fun e w' => e = .returned (.tuple #[.agg #[.int .i64 k, .int .i64 i, .int .i64 j], .bool t]) ∧ Below w.heap.size w w' := by
  subst hn hm
  have := contact_any ao bo ca cb a b w h0 h0' hle hle' hA hB va vb
  rw [hc.out] at this
  exact this
theorem polygons_is (ao bo : Option Addr) (n m ca cb : Nat) (a b : List (Int × Int)) (t : Bool) (w : World) (hn : a.length = n) (hm : b.length = m) (ht : Hid (touchB a b = t)) (h0 : 0 < n) (h0' : 0 < m) (hle : n ≤ 12) (hle' : m ≤ 12) (hA : PRow w ao a) (hB : PRow w bo b) (va : AllR2 a) (vb : AllR2 b) :
    Calls Tryd.prog 33 #[.slice ao n ca, .slice bo m cb] w fun e w' => e = .returned (.bool t) ∧ Below w.heap.size w w' := by
  obtain ⟨k, i, j, s, hc⟩ : ∃ k i j s, conT a b = (k, i, j, s) := ⟨_, _, _, _, rfl⟩
  have hs : s = t := by rw [← ht.out, ← conT_touch, hc]
  subst hs
  have HC := Lib.hid hc
  clear hc ht
  go_enter Tryd.func33, Tryd.ntmps33
  go_wp2_with (go_at_call 59; refine (contact_is ao bo n m ca cb a b k i j s _ hn hm HC h0 h0' hle hle' hA hB va vb).mono ?_; rintro e w1 ⟨rfl, hb⟩)
  go_ret
  exact ⟨rfl, belA hb _⟩

/-! ### IsSeparating, IsContact -/
def isSepB (a b : List (Int × Int)) (o e : Int) : Bool := if o = 0 then decide (0 ≤ e ∧ e < (a.length : Int)) && rightB a b e.toNat else if o = 1 then decide (0 ≤ e ∧ e < (b.length : Int)) && rightB b a e.toNat else false
def isConB (a b : List (Int × Int)) (k i j : Int) : Bool :=
  if k = 1 then decide (0 ≤ i ∧ i < (a.length : Int)) && (decide (0 ≤ j ∧ j < (b.length : Int)) && eeB a b i.toNat j.toNat)
  else if k = 2 then decide (j = 0) && (decide (0 ≤ i ∧ i < (a.length : Int)) && inC a b i.toNat)
  else if k = 3 then decide (i = 0) && (decide (0 ≤ j ∧ j < (b.length : Int)) && inC b a j.toNat) else false
/-! ### What is returned passes the check -/
theorem vparts {ps : List (Int × Int)} (h : validP ps = true) : 3 ≤ ps.length ∧ ps.length ≤ 12 ∧ AllV ps := by
  unfold validP at h
  rw [Bool.and_eq_true] at h
  exact (validC_iff ps).1 h.1
theorem sep_check {a b : List (Int × Int)} (h0 : 0 < a.length) {p i : Int} {s : Bool} (h : sepT a b = (p, i, s)) : isSepB a b p i = s := by
  unfold sepT at h
  rcases firstI_cases (rightB a b) a.length with ⟨e, n⟩ | ⟨k, hk, e, y, _⟩
  · rw [e, if_neg (by omega)] at h
    rcases firstI_cases (rightB b a) b.length with ⟨e2, _⟩ | ⟨k, hk, e2, y, _⟩
    · rw [e2, if_neg (by omega)] at h
      obtain ⟨rfl, rfl, rfl⟩ : (0 : Int) = p ∧ (0 : Int) = i ∧ false = s := by simpa using h
      unfold isSepB
      rw [if_pos rfl, show (0 : Int).toNat = 0 from rfl, n 0 h0, Bool.and_false]
    · rw [e2, if_pos (by omega)] at h
      obtain ⟨rfl, rfl, rfl⟩ : (1 : Int) = p ∧ (k : Int) = i ∧ true = s := by simpa using h
      unfold isSepB
      rw [if_neg (by decide), if_pos rfl, decide_eq_true ⟨by omega, by omega⟩, Int.toNat_natCast, y]
      rfl
  · rw [e, if_pos (by omega)] at h
    obtain ⟨rfl, rfl, rfl⟩ : (0 : Int) = p ∧ (k : Int) = i ∧ true = s := by simpa using h
    unfold isSepB
    rw [if_pos rfl, decide_eq_true ⟨by omega, by omega⟩, Int.toNat_natCast, y]
    rfl
theorem con_check {a b : List (Int × Int)} {p i j : Int} {t : Bool} (h : conT a b = (p, i, j, t)) : isConB a b p i j = t := by
  unfold conT at h
  rcases firstI_cases (rowE a b) a.length with ⟨e, _⟩ | ⟨k, hk, e, y, _⟩
  · rw [e, if_neg (by omega)] at h
    rcases firstI_cases (inC a b) a.length with ⟨e2, _⟩ | ⟨k, hk, e2, y, _⟩
    · rw [e2, if_neg (by omega)] at h
      rcases firstI_cases (inC b a) b.length with ⟨e3, _⟩ | ⟨k, hk, e3, y, _⟩
      · rw [e3, if_neg (by omega)] at h
        obtain ⟨rfl, rfl, rfl, rfl⟩ : (0 : Int) = p ∧ (0 : Int) = i ∧ (0 : Int) = j ∧ false = t := by simpa using h
        rfl
      · rw [e3, if_pos (by omega)] at h
        obtain ⟨rfl, rfl, rfl, rfl⟩ : (3 : Int) = p ∧ (0 : Int) = i ∧ (k : Int) = j ∧ true = t := by simpa using h
        unfold isConB
        rw [if_neg (by decide), if_neg (by decide), if_pos rfl, decide_eq_true rfl, decide_eq_true ⟨by omega, by omega⟩, Int.toNat_natCast, y]
        rfl
    · rw [e2, if_pos (by omega)] at h
      obtain ⟨rfl, rfl, rfl, rfl⟩ : (2 : Int) = p ∧ (k : Int) = i ∧ (0 : Int) = j ∧ true = t := by simpa using h
      unfold isConB
      rw [if_neg (by decide), if_pos rfl, decide_eq_true rfl, decide_eq_true ⟨by omega, by omega⟩, Int.toNat_natCast, y]
      rfl
  · rw [e, if_pos (by omega), Int.toNat_natCast] at h
    unfold rowE at y
    obtain ⟨m, hm, y2⟩ := List.any_eq_true.1 y
    rcases firstI_cases (eeB a b k) b.length with ⟨_, n⟩ | ⟨m', hm', e4, y4, _⟩
    · rw [n m (List.mem_range.1 hm)] at y2; cases y2
    · rw [e4] at h
      obtain ⟨rfl, rfl, rfl, rfl⟩ : (1 : Int) = p ∧ (k : Int) = i ∧ (m' : Int) = j ∧ true = t := by simpa using h
      unfold isConB
      rw [if_pos rfl, decide_eq_true ⟨by omega, by omega⟩, decide_eq_true ⟨by omega, by omega⟩, Int.toNat_natCast, Int.toNat_natCast, y4]
      rfl
end Go.Proofs.YtalhkcmlacppjaaDoor
