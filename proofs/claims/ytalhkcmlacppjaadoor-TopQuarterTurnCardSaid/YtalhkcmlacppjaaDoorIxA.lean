/- Contracts of the leaves of package intersect: hasIndex, edgeAt, meets, contains, the closures; of the library's IndexFunc and ContainsFunc at any closure. -/
import Derived.Test.YtalhkcmlacppjaaDoorHp
namespace Go.Proofs.YtalhkcmlacppjaaDoor
open Go.ChangeShapes Go.WideShapes Go.ChangeAt Go.RowKit
set_option linter.unusedVariables false
set_option linter.unusedSimpArgs false

theorem edgeAt_is (ao : Option Addr) (n cap i : Nat) (I : Int) (ps : List (Int × Int)) (w : World) (hI : I = (i : Int)) (hn : ps.length = n) (hi : i < n) (hle : n ≤ 1000000) (hP : PRow w ao ps) :
    Calls Tryd.prog 92 #[.slice ao n cap, .int .i64 I] w fun e w' => e = .returned (.agg #[.int .i64 (cx ps i), .int .i64 (cy ps i), .int .i64 (cx ps (nx n i)), .int .i64 (cy ps (nx n i))]) ∧ Below w.heap.size w w' := by
  subst hn hI
  obtain ⟨j, hj⟩ : ∃ j, nx ps.length i = j := ⟨_, rfl⟩
  have hjl : j < ps.length := by rw [← hj]; exact nx_lt' hi
  have h0 : (ps.length : Int) ≠ 0 := by omega
  have ht : ((i : Int) + 1).tmod (ps.length : Int) = (j : Int) := by
    rw [← hj, Int.tmod_eq_emod_of_nonneg (by omega)]; unfold nx; simp
  rw [hj]
  obtain ⟨b, o, rfl, c1, c2⟩ := prow_at hP hi
  obtain ⟨b', o', e, c3, c4⟩ := prow_at hP hjl
  obtain ⟨rfl, rfl⟩ : b = b' ∧ o = o' := by simpa using e
  clear e
  have hii : (i : Int) < ps.length := by omega
  have hjj : (j : Int) < ps.length := by omega
  generalize cx ps i = a at *
  generalize cy ps i = c at *
  generalize cx ps j = p at *
  generalize cy ps j = q at *
  have hw : IntKind.i64.wrap ((i : Int) + 1) = (i : Int) + 1 := wrap_k _ (by omega)
  have d1 := cell_alloc c1 (.cells #[.int .i64 0, .int .i64 0, .int .i64 0, .int .i64 0] 104)
  have d2 := cell_alloc c2 (.cells #[.int .i64 0, .int .i64 0, .int .i64 0, .int .i64 0] 104)
  have d3 := cell_alloc c3 (.cells #[.int .i64 0, .int .i64 0, .int .i64 0, .int .i64 0] 104)
  have d4 := cell_alloc c4 (.cells #[.int .i64 0, .int .i64 0, .int .i64 0, .int .i64 0] 104)
  clear hj
  go_enter Tryd.func92, Tryd.ntmps92
  go_wp2
  go_region
  all_goals (try go_wp2)
  refine bodyPost_ret (v := .agg #[.int .i64 a, .int .i64 c, .int .i64 p, .int .i64 q]) (by simp [results, Tryd.results92, go_sem]) rfl ?_
  have hb := belA (Below.refl w.heap.size w) (.cells #[.int .i64 a, .int .i64 c, .int .i64 p, .int .i64 q] 104)
  exact ⟨rfl, ⟨hb.os, hb.tape, hb.output, hb.size, hb.block⟩⟩

theorem meets_is (a b c d p q r s : Int) (t : Bool) (w : World) (ht : Hid (segB a b c d p q r s = t)) (ia : InR a) (ib : InR b) (ic : InR c) (id : InR d) (ip : InR p) (iq : InR q) (ir : InR r) (is : InR s) :
    Calls Tryd.prog 82 #[.agg #[.int .i64 a, .int .i64 b, .int .i64 c, .int .i64 d], .agg #[.int .i64 p, .int .i64 q, .int .i64 r, .int .i64 s]] w fun e w' => e = .returned (.bool t) ∧ Below w.heap.size w w' := by
  go_enter Tryd.func82, Tryd.ntmps82
  go_wp2_with (go_at_call 73; refine (cross_is _ _ _ _ _ _ _ _ t _ ht ia ib ic id ip iq ir is).mono ?_; rintro e w1 ⟨rfl, hb⟩)
  go_ret
  exact ⟨rfl, (belA (belA (Below.refl _ _) _) _).trans (hb.mono (by simp; omega))⟩

theorem contains_is (ao : Option Addr) (n cap : Nat) (l : List (Int × Int)) (p q : Int) (t : Bool) (w : World) (hn : l.length = n) (ht : Hid (decide (0 ≤ locE l p q) = t)) (h0 : 0 < l.length) (h12 : l.length ≤ 12) (hP : PRow w ao l) (ha : AllR2 l) (hp : InR p) (hq : InR q) :
    Calls Tryd.prog 94 #[.slice ao n cap, .agg #[.int .i64 p, .int .i64 q]] w fun e w' => e = .returned (.bool t) ∧ Below w.heap.size w w' := by
  obtain ⟨v, hv⟩ : ∃ v, locE l p q = v := ⟨_, rfl⟩
  have hv' := Lib.hid hv
  have ht2 := ht.out
  rw [hv] at ht2
  clear ht hv
  go_enter Tryd.func94, Tryd.ntmps94
  go_wp2_with (go_at_call 29; refine (locate_at ao n cap l p q v _ hn hv' h0 h12 (prow_alloc hP _) ha hp hq).mono ?_; rintro e w1 ⟨rfl, hb⟩)
  go_ret
  exact ⟨rfl, (belA (Below.refl _ _) _).trans (hb.mono (by simp))⟩
end Go.Proofs.YtalhkcmlacppjaaDoor
