/- Contract of package polygon: meetsItselfOnlyAtCorners. Conditions: the slice reads as the list says; its points are in range. -/
import Derived.Test.YthmcejeeohlafaaDoorPolC
import Derived.Test.YthmcejeeohlafaaDoorGeoD
namespace Go.Proofs.YthmcejeeohlafaaDoor
open Go.ChangeShapes Go.WideShapes Go.ChangeAt Go.RowKit
attribute [local go_sem] Oper.semAt_some
set_option linter.unusedVariables false
set_option linter.unusedSimpArgs false

def segE (ps : List (Int × Int)) (i j : Nat) : Bool := segB (cx ps i) (cy ps i) (cx ps (nx ps.length i)) (cy ps (nx ps.length i)) (cx ps j) (cy ps j) (cx ps (nx ps.length j)) (cy ps (nx ps.length j))
def skipE (n i j : Nat) : Bool := decide (j ≤ i + 1) || nx n j == i
def meetB (ps : List (Int × Int)) (i j : Nat) : Bool := !skipE ps.length i j && segE ps i j
def simpleB (ps : List (Int × Int)) : Bool := (List.range ps.length).all fun i => (List.range ps.length).all fun j => !meetB ps i j
theorem wrap_k (n : Int) (h : -1000000000 ≤ n ∧ n ≤ 1000000000) : IntKind.i64.wrap n = n := by rw [IntKind.wrap_i64]; omega
theorem kpE_alloc {n₀ Bs : Nat} {W : World} (o : Obj) (h : n₀ ≤ W.heap.size) (hB : Bs < W.heap.size) : KpE n₀ Bs W (W.alloc o) := ⟨(Below.refl _ _).alloc h _, Below.heap_alloc W _ _ hB⟩
theorem cross_is (a b c d p q r s : Int) (g : Bool) (w : World) (h : Hid (segB a b c d p q r s = g)) (ia : InR a) (ib : InR b) (ic : InR c) (id : InR d) (ip : InR p) (iq : InR q) (ir : InR r) (is : InR s) :
    Calls Tryd.prog 23 #[.agg #[.int .i64 a, .int .i64 b], .agg #[.int .i64 c, .int .i64 d], .agg #[.int .i64 p, .int .i64 q], .agg #[.int .i64 r, .int .i64 s]] w fun e w' => e = .returned (.bool g) ∧ Below w.heap.size w w' := by
  have := cross_any a b c d p q r s w ia ib ic id ip iq ir is
  rw [h.out] at this
  exact this


set_option maxRecDepth 100000 in
set_option maxHeartbeats 16000000 in
theorem simple_any (ao : Option Addr) (cap : Nat) (ps : List (Int × Int)) (w : World) (h0 : 0 < ps.length) (hle : ps.length ≤ 1000000) (hP : PRow w ao ps) (hv : AllR2 ps) :
    Calls Tryd.prog 27 #[.slice ao ps.length cap] w fun e w' => e = .returned (.bool (simpleB ps)) ∧ Below w.heap.size w w' := by
  refine (callsIn_wide (n := 9)).1 ?_
  refine callsIn_of_wp_marks Tryd.func27 rfl trivial ?_ rfl
  simp only [Tryd.ntmps27, List.size_toArray, List.length_cons, List.length_nil, Nat.reduceAdd, Nat.reduceSub, Array.replicate_succ, Array.replicate_zero, List.push_toArray, List.append_toArray, List.nil_append, List.cons_append]
  gi_wp2_with (refine ⟨trivial, ?_⟩; gi_at_call 28; refine (callsIn_wide.2 (edges_is ao ps.length cap _)).mono ?_; rintro e w' ⟨rfl, rfl⟩)
  obtain ⟨W0, hW0⟩ : ∃ W0, ((w.alloc (.cells #[.slice ao ps.length cap] 23)).alloc (.cells #[.bool false] 4)).alloc (.cells #[.slice ao ps.length cap] 23) = W0 := ⟨_, rfl⟩
  have hP0 : W0.heap[w.heap.size]? = some (.cells #[.slice ao ps.length cap] 23 (0, 0)) := by rw [← hW0]; exact blk_alloc (blk_alloc (blk_new _ _ _ rfl) _) _
  have hR0 : W0.heap[w.heap.size + 1]? = some (.cells #[.bool false] 4 (0, 0)) := by rw [← hW0]; exact blk_alloc (blk_new _ _ _ (by simp)) _
  have hN0 : W0.heap[w.heap.size + 1 + 1]? = some (.cells #[.slice ao ps.length cap] 23 (0, 0)) := by rw [← hW0]; exact blk_new _ _ _ (by simp)
  have hB0 : Below w.heap.size w W0 := by rw [← hW0]; exact belA (belA (belA (Below.refl _ _) _) _) _
  have hsz : w.heap.size + 1 + 1 < W0.heap.size := by rw [← hW0]; simp
  rw [hW0]
  clear hW0
  refine wpIn_rangeFunc_ownH rfl (by omega) (gf := 42) (lb := #[.pointer (some ⟨w.heap.size + 1 + 1, 0, none⟩)]) rfl trivial (enters_of Tryd.func42 (by kernel_rfl) rfl)
    (edges_stops (9 - 1) (by omega) (w.heap.size + 1 + 1) ao cap ps w W0 h0 hle hP hB0 hN0) kpE_t (kpE_b (by omega) (by omega)) (Below.refl _ _) (fun _ => rfl)
    (fun pre W => ((((∀ i ∈ vals pre, ∀ j, j < ps.length → meetB ps i j = false) ∧ W.heap[w.heap.size]? = some (.cells #[.slice ao ps.length cap] 23 (0, 0))) ∧ W.heap[w.heap.size + 1]? = some (.cells #[.bool false] 4 (0, 0))) ∧ W.heap[w.heap.size + 1 + 1]? = some (.cells #[.slice ao ps.length cap] 23 (0, 0))) ∧ Below w.heap.size w W ∧ W0.heap.size ≤ W.heap.size)
    (fun c pre W => ((c = .ret ∧ ∃ i j, i < ps.length ∧ j < ps.length ∧ meetB ps i j = true) ∧ W.heap[w.heap.size + 1]? = some (.cells #[.bool false] 4 (0, 0))) ∧ Below w.heap.size w W)
    (OwnFrom.and (OwnFrom.and (OwnFrom.and (OwnFrom.and (ownFrom_pure _ _) (Own.from (blk_own _ _ (fun _ => rfl)) _)) (Own.from (blk_own _ _ (fun _ => rfl)) _)) (Own.from (blk_own _ _ (fun _ => rfl)) _)) (OwnFrom.and (ownFrom_below (Nat.le_refl _) (by omega)) (own_size _ _)))
    (fun c => OwnFrom.and (OwnFrom.and (ownFrom_pure _ _) (Own.from (blk_own _ _ (fun _ => rfl)) _)) (ownFrom_below (Nat.le_refl _) (by omega)))
    ⟨⟨⟨⟨by simp [vals], hP0⟩, hR0⟩, hN0⟩, hB0, Nat.le_refl _⟩
    (fun x a' W => ∃ Bi Be, (W.heap[Bi]? = some (.cells #[.int .i64 (x.1 : Int)] 3 (0, 0))) ∧ (W.heap[Be]? = some (.cells #[.int .i64 (cx ps x.1), .int .i64 (cy ps x.1), .int .i64 (cx ps (nx ps.length x.1)), .int .i64 (cy ps (nx ps.length x.1))] 50 (0, 0))) ∧ a' = { tmps := #[.slice ao ps.length cap, .pointer (some ⟨w.heap.size, 0, none⟩), .pointer (some ⟨w.heap.size + 1, 0, none⟩), .pointer (some ⟨Bi, 0, none⟩), .pointer (some ⟨Be, 0, none⟩), undef, undef, .slice ao ps.length cap, .func (.func 42) #[] #[.pointer (some ⟨w.heap.size + 1 + 1, 0, none⟩)], .int .i64 (x.1 : Int), .agg #[.int .i64 (cx ps x.1), .int .i64 (cy ps x.1), .int .i64 (cx ps (nx ps.length x.1)), .int .i64 (cy ps (nx ps.length x.1))], undef, undef, undef, undef, undef, undef, undef, undef, undef, undef, undef, undef, undef, undef, undef, undef, undef, undef, undef, undef, undef, undef, undef, undef], defers := [] })
    (fun x a' => fun _ X Y row ⟨Bi, Be, h1, h2, h3⟩ hg hr => ⟨Bi, Be, (blk_own Bi (fun (_ : Unit) => .cells #[.int .i64 (x.1 : Int)] 3 (0, 0)) (fun _ => rfl)).from _ () X Y row h1 hg hr, (blk_own Be (fun (_ : Unit) => .cells #[.int .i64 (cx ps x.1), .int .i64 (cy ps x.1), .int .i64 (cx ps (nx ps.length x.1)), .int .i64 (cy ps (nx ps.length x.1))] 50 (0, 0)) (fun _ => rfl)).from _ () X Y row h2 hg hr, h3⟩)
    ?assign ?body ?done ?stop
  case assign =>
    rintro l pre x W K ⟨⟨⟨⟨hp, hPb⟩, hR⟩, hN⟩, hB, hz⟩ hK
    rw [show encE ps x = #[.int .i64 (x.1 : Int), .agg #[.int .i64 (cx ps x.1), .int .i64 (cy ps x.1), .int .i64 (cx ps (nx ps.length x.1)), .int .i64 (cy ps (nx ps.length x.1))]] from rfl]
    gi_wp2
    exact hK _ _ (((KeepsOthers.alloc _ _).trans (KeepsOthers.alloc _ _)).from _) (kpE_t (kpE_alloc _ hB.size (by omega)) (kpE_alloc _ (by have := hB.size; simp; omega) (by simp; omega))) ⟨⟨⟨⟨hp, blk_alloc (blk_alloc hPb _) _⟩, blk_alloc (blk_alloc hR _) _⟩, blk_alloc (blk_alloc hN _) _⟩, belA (belA hB _) _, by first | omega | (simp; omega)⟩ ⟨W.heap.size, W.heap.size + 1, blk_alloc (blk_new _ _ _ rfl) _, blk_new _ _ _ (by simp), rfl⟩
  case body =>
    rintro l pre x a' W hl ⟨rl, hrl⟩ ⟨⟨⟨⟨hp, hPb⟩, hR⟩, hN⟩, hB, hz⟩ ⟨Bi, Be, hi, he, rfl⟩ hlen
    have hxl := x.2
    have kp := blk_cell hPb 0 _ rfl
    gi_wp2_with (refine ⟨trivial, ?_⟩; gi_at_call 28; refine (CallsIn.inRound l (callsIn_wide.2 (edges_is ao ps.length cap _))).mono ?_; rintro e w' ⟨rfl, rfl⟩)
    have hsW := hB.size
    have hr' : (W.alloc (.cells #[.slice ao ps.length cap] 23)).heap[l]? = some (.loop rl) := blk_alloc hrl _
    refine wpIn_rangeFunc_ownN (l₀ := l) (r₀ := rl) rfl hr' (by omega) (gf := 42) (lb := #[.pointer (some ⟨W.heap.size, 0, none⟩)]) rfl trivial (enters_of Tryd.func42 (by kernel_rfl) rfl)
      ((edges_stops (9 - 1 - 1 - 1) (by omega) W.heap.size ao cap ps w (W.alloc (.cells #[.slice ao ps.length cap] 23)) h0 hle hP (belA hB _) (blk_new _ _ _ rfl)).inRound l) kpE_t (kpE_b (by first | omega | (simp; omega)) (by simp)) (Below.refl _ _) (fun _ => rfl)
      (fun pre' W' => ((((((∀ j ∈ vals pre', meetB ps x.1 j = false) ∧ W'.heap[w.heap.size]? = some (.cells #[.slice ao ps.length cap] 23 (0, 0))) ∧ W'.heap[w.heap.size + 1]? = some (.cells #[.bool false] 4 (0, 0))) ∧ W'.heap[w.heap.size + 1 + 1]? = some (.cells #[.slice ao ps.length cap] 23 (0, 0))) ∧ W'.heap[Bi]? = some (.cells #[.int .i64 (x.1 : Int)] 3 (0, 0))) ∧ W'.heap[Be]? = some (.cells #[.int .i64 (cx ps x.1), .int .i64 (cy ps x.1), .int .i64 (cx ps (nx ps.length x.1)), .int .i64 (cy ps (nx ps.length x.1))] 50 (0, 0))) ∧ (Below w.heap.size W W' ∧ KeepsFrom W0.heap.size W W') ∧ W.heap.size + 1 ≤ W'.heap.size)
      (fun c pre' W' => ((((c = .ret ∧ ∃ j, j < ps.length ∧ meetB ps x.1 j = true)) ∧ W'.heap[w.heap.size + 1]? = some (.cells #[.bool false] 4 (0, 0)))) ∧ (Below w.heap.size W W' ∧ KeepsFrom W0.heap.size W W'))
      (OwnFrom.and (OwnFrom.and (OwnFrom.and (OwnFrom.and (OwnFrom.and (OwnFrom.and (ownFrom_pure _ _) (Own.from (blk_own _ _ (fun _ => rfl)) _)) (Own.from (blk_own _ _ (fun _ => rfl)) _)) (Own.from (blk_own _ _ (fun _ => rfl)) _)) (Own.from (blk_own _ _ (fun _ => rfl)) _)) (Own.from (blk_own _ _ (fun _ => rfl)) _)) (OwnFrom.and (OwnFrom.and (ownFrom_below hsW (by first | omega | (simp; omega))) (ownFrom_keepsFrom (by simp))) (own_size _ _)))
      (fun c => OwnFrom.and (OwnFrom.and (ownFrom_pure _ _) (Own.from (blk_own _ _ (fun _ => rfl)) _)) (OwnFrom.and (ownFrom_below hsW (by first | omega | (simp; omega))) (ownFrom_keepsFrom (by simp))))
      ⟨⟨⟨⟨⟨⟨by simp [vals], blk_alloc hPb _⟩, blk_alloc hR _⟩, blk_alloc hN _⟩, blk_alloc hi _⟩, blk_alloc he _⟩, ⟨(Below.refl _ W).alloc hsW _, (KeepsOthers.alloc _ _).from _⟩, by simp⟩
      (fun y a'' W' => ∃ Bf, (W'.heap[Bf]? = some (.cells #[.int .i64 (cx ps y.1), .int .i64 (cy ps y.1), .int .i64 (cx ps (nx ps.length y.1)), .int .i64 (cy ps (nx ps.length y.1))] 50 (0, 0))) ∧ a'' = { tmps := #[.slice ao ps.length cap, .pointer (some ⟨w.heap.size, 0, none⟩), .pointer (some ⟨w.heap.size + 1, 0, none⟩), .pointer (some ⟨Bi, 0, none⟩), .pointer (some ⟨Be, 0, none⟩), .int .i64 (y.1 : Int), .pointer (some ⟨Bf, 0, none⟩), .slice ao ps.length cap, .func (.func 42) #[] #[.pointer (some ⟨w.heap.size + 1 + 1, 0, none⟩)], .int .i64 (x.1 : Int), .agg #[.int .i64 (cx ps x.1), .int .i64 (cy ps x.1), .int .i64 (cx ps (nx ps.length x.1)), .int .i64 (cy ps (nx ps.length x.1))], .slice ao ps.length cap, .func (.func 42) #[] #[.pointer (some ⟨W.heap.size, 0, none⟩)], .int .i64 (y.1 : Int), .agg #[.int .i64 (cx ps y.1), .int .i64 (cy ps y.1), .int .i64 (cx ps (nx ps.length y.1)), .int .i64 (cy ps (nx ps.length y.1))], undef, undef, undef, undef, undef, undef, undef, undef, undef, undef, undef, undef, undef, undef, undef, undef, undef, undef, undef, undef], defers := [] })
      (fun y a'' => fun _ X Y row ⟨Bf, h1, h3⟩ hg hr => ⟨Bf, (blk_own Bf (fun (_ : Unit) => .cells #[.int .i64 (cx ps y.1), .int .i64 (cy ps y.1), .int .i64 (cx ps (nx ps.length y.1)), .int .i64 (cy ps (nx ps.length y.1))] 50 (0, 0)) (fun _ => rfl)).from _ () X Y row h1 hg hr, h3⟩)
      ?assign2 ?body2 ?done2 ?stop2
    case assign2 =>
      rintro l2 pre' y W1 K ⟨⟨⟨⟨⟨⟨hq, hP1⟩, hR1⟩, hN1⟩, hi1⟩, he1⟩, ⟨hBW, hKF⟩, hz1⟩ hK
      rw [show encE ps y = #[.int .i64 (y.1 : Int), .agg #[.int .i64 (cx ps y.1), .int .i64 (cy ps y.1), .int .i64 (cx ps (nx ps.length y.1)), .int .i64 (cy ps (nx ps.length y.1))]] from rfl]
      gi_wp2
      exact hK _ _ ((KeepsOthers.alloc _ _).from _) ⟨(Below.refl _ _).alloc (by omega) _, Below.heap_alloc W1 _ _ (by omega)⟩ ⟨⟨⟨⟨⟨⟨hq, blk_alloc hP1 _⟩, blk_alloc hR1 _⟩, blk_alloc hN1 _⟩, blk_alloc hi1 _⟩, blk_alloc he1 _⟩, ⟨hBW.alloc (by omega) _, hKF.trans ((KeepsOthers.alloc _ _).from _)⟩, by first | omega | (simp; omega)⟩ ⟨W1.heap.size, blk_new _ _ _ rfl, rfl⟩
    case body2 =>
      rintro l2 pre' y a'' W1 hl2 ⟨rl2, hrl2⟩ ⟨⟨⟨⟨⟨⟨hq, hP1⟩, hR1⟩, hN1⟩, hi1⟩, he1⟩, ⟨hBW, hKF⟩, hz1⟩ ⟨Bf, hf1, rfl⟩ hlen2
      have hyl := y.2
      clear hPb hR hN hi he kp hr' hlen hlen2
      obtain ⟨jn, hjn⟩ : ∃ j, nx ps.length y.1 = j := ⟨_, rfl⟩
      have HJ : Hid ((y.1 + 1) % ps.length = jn) := Lib.hid hjn
      obtain ⟨s, hs⟩ : ∃ s, ((jn : Int) == (x.1 : Int)) = s := ⟨_, rfl⟩
      have hs' : (jn == x.1) = s := by rw [← hs, Bool.eq_iff_iff, beq_iff_eq, beq_iff_eq]; omega
      have hxm : (x.1 : Int) ≤ 1000000 := by omega
      have hwr : IntKind.i64.wrap ((x.1 : Int) + 1) = (x.1 : Int) + 1 := wrap_k _ (by omega)
      have hsW1 := Nat.le_trans hB.size hBW.size
      have HQ := Lib.hid hq
      have HJ2 := Lib.hid hjn
      have HS := Lib.hid hs'
      have ki := blk_cell hi1 0 _ rfl
      have kp := blk_cell hP1 0 _ rfl
      clear hq hjn hs'
      by_cases hA : y.1 ≤ x.1 + 1
      · have hM : Hid (meetB ps x.1 y.1 = false) := Lib.hid (by unfold meetB skipE; simp [hA])
        have hAi : decide ((y.1 : Int) ≤ (x.1 : Int) + 1) = true := decide_eq_true (by omega)
        gi_upto_region 7 with fail
        obtain ⟨sp, hsp⟩ : ∃ sp : Told, sp = [none, none, none, none, none, none, none, none, none, none, none, none, none, none, none, some (.inl (.int .i64 (y.1 : Int))), some (.inl (.int .i64 (x.1 : Int))), some (.inl (.int .i64 ((x.1 : Int) + 1))), some (.inl (.bool true)), some (.inl (.bool true)), none, none, none, none, none, some (.inl (.bool true))] := ⟨_, rfl⟩
        have s15 : sp.getD 15 none = some (.inl (.int .i64 (y.1 : Int))) := by rw [hsp]; rfl
        have s16 : sp.getD 16 none = some (.inl (.int .i64 (x.1 : Int))) := by rw [hsp]; rfl
        have s17 : sp.getD 17 none = some (.inl (.int .i64 ((x.1 : Int) + 1))) := by rw [hsp]; rfl
        have s18 : sp.getD 18 none = some (.inl (.bool true)) := by rw [hsp]; rfl
        have s19 : sp.getD 19 none = some (.inl (.bool true)) := by rw [hsp]; rfl
        have s20 : sp.getD 20 none = none := by rw [hsp]; rfl
        have s21 : sp.getD 21 none = none := by rw [hsp]; rfl
        have s22 : sp.getD 22 none = none := by rw [hsp]; rfl
        have s23 : sp.getD 23 none = none := by rw [hsp]; rfl
        have s24 : sp.getD 24 none = none := by rw [hsp]; rfl
        have s25 : sp.getD 25 none = some (.inl (.bool true)) := by rw [hsp]; rfl
        clear hsp
        refine region_obs_in sp rfl rfl rfl (by kernel_rfl) (by rintro ⟨_, _, h⟩; exact h) (by kernel_rfl) (by kernel_rfl) ?_ ?_
        · rw [List.toList_toArray]
          refine obs_cons ?_ ?_
          · intro T wx K hB hF hD hK
            have g5 : T[5]? = some (.int .i64 (y.1 : Int)) := hF 5 (free_of (by kernel_rfl))
            refine ob_yes (wanted_none rfl) ?_
            clear hF hD
            go_simp
            exact hK _ _ (Below.refl _ _) (rt_eq s15)
          refine obs_cons ?_ ?_
          · intro T wx K hB hF hD hK
            have g3 : T[3]? = some (.pointer (some ⟨Bi, 0, none⟩)) := hF 3 (free_of (by kernel_rfl))
            refine ob_yes (wanted_none rfl) ?_
            clear hF hD
            have c0 := cell_call ki hB
            go_simp
            exact hK _ _ (Below.refl _ _) (rt_eq s16)
          refine obs_cons ?_ ?_
          · intro T wx K hB hF hD hK
            have g16 := get_eq (hD 1 16 (by simp [Region.binds]) (by kernel_rfl)) s16
            refine ob_yes (wanted_none rfl) ?_
            clear hF hD
            go_simp
            exact hK _ _ (Below.refl _ _) (rt_eq s17)
          refine obs_cons ?_ ?_
          · intro T wx K hB hF hD hK
            have g15 := get_eq (hD 0 15 (by simp [Region.binds]) (by kernel_rfl)) s15
            have g17 := get_eq (hD 2 17 (by simp [Region.binds]) (by kernel_rfl)) s17
            refine ob_yes (wanted_none rfl) ?_
            clear hF hD
            go_simp
            exact hK _ _ (Below.refl _ _) (rt_eq s18)
          refine obs_cons ?_ ?_
          · intro T wx K hB hF hD hK
            have g18 := get_eq (hD 3 18 (by simp [Region.binds]) (by kernel_rfl)) s18
            refine ob_yes (wanted_none rfl) ?_
            clear hF hD
            go_simp
            exact hK _ _ (Below.refl _ _) (rt_eq s19)
          refine obs_cons ?_ ?_
          · intro T wx K hB hF hD hK
            have g19 := get_eq (hD 4 19 (by simp [Region.binds]) (by kernel_rfl)) s19
            refine ob_no (wanted_no rfl (by kernel_rfl) g19 rfl) ?_
            exact hK _ _ (Below.refl _ _) (rt_any s20)
          refine obs_cons ?_ ?_
          · intro T wx K hB hF hD hK
            have g19 := get_eq (hD 4 19 (by simp [Region.binds]) (by kernel_rfl)) s19
            refine ob_no (wanted_no rfl (by kernel_rfl) g19 rfl) ?_
            exact hK _ _ (Below.refl _ _) (rt_any s21)
          refine obs_cons ?_ ?_
          · intro T wx K hB hF hD hK
            have g19 := get_eq (hD 4 19 (by simp [Region.binds]) (by kernel_rfl)) s19
            refine ob_no (wanted_no rfl (by kernel_rfl) g19 rfl) ?_
            exact hK _ _ (Below.refl _ _) (rt_any s22)
          refine obs_cons ?_ ?_
          · intro T wx K hB hF hD hK
            have g19 := get_eq (hD 4 19 (by simp [Region.binds]) (by kernel_rfl)) s19
            refine ob_no (wanted_no rfl (by kernel_rfl) g19 rfl) ?_
            exact hK _ _ (Below.refl _ _) (rt_any s23)
          refine obs_cons ?_ ?_
          · intro T wx K hB hF hD hK
            have g19 := get_eq (hD 4 19 (by simp [Region.binds]) (by kernel_rfl)) s19
            refine ob_no (wanted_no rfl (by kernel_rfl) g19 rfl) ?_
            exact hK _ _ (Below.refl _ _) (rt_any s24)
          refine obs_cons ?_ ?_
          · intro T wx K hB hF hD hK
            have g19 := get_eq (hD 4 19 (by simp [Region.binds]) (by kernel_rfl)) s19
            refine ob_yes (wanted_none rfl) ?_
            clear hF hD
            go_simp
            exact hK _ _ (Below.refl _ _) (rt_eq s25)
          exact obs_nil
        · intro T w2 hb hF hs hD
          have g15 := get_eq (hD 0 15 (by kernel_rfl)) s15
          have g16 := get_eq (hD 1 16 (by kernel_rfl)) s16
          have g17 := get_eq (hD 2 17 (by kernel_rfl)) s17
          have g18 := get_eq (hD 3 18 (by kernel_rfl)) s18
          have g19 := get_eq (hD 4 19 (by kernel_rfl)) s19
          have g25 := get_eq (hD 10 25 (by kernel_rfl)) s25
          have g0 := hF 0 (free_of (by kernel_rfl))
          have g1 := hF 1 (free_of (by kernel_rfl))
          have g2 := hF 2 (free_of (by kernel_rfl))
          have g3 := hF 3 (free_of (by kernel_rfl))
          have g4 := hF 4 (free_of (by kernel_rfl))
          have g5 := hF 5 (free_of (by kernel_rfl))
          have g6 := hF 6 (free_of (by kernel_rfl))
          have g7 := hF 7 (free_of (by kernel_rfl))
          have g8 := hF 8 (free_of (by kernel_rfl))
          have g9 := hF 9 (free_of (by kernel_rfl))
          have g10 := hF 10 (free_of (by kernel_rfl))
          have g11 := hF 11 (free_of (by kernel_rfl))
          have g12 := hF 12 (free_of (by kernel_rfl))
          have g13 := hF 13 (free_of (by kernel_rfl))
          have g14 := hF 14 (free_of (by kernel_rfl))
          clear hF hD
          obtain ⟨x0, x1, x2, x3, x4, x5, x6, x7, x8, x9, x10, x11, x12, x13, x14, x15, x16, x17, x18, x19, x20, x21, x22, x23, x24, x25, x26, x27, x28, x29, x30, x31, x32, x33, x34, rfl⟩ : ∃ x0 x1 x2 x3 x4 x5 x6 x7 x8 x9 x10 x11 x12 x13 x14 x15 x16 x17 x18 x19 x20 x21 x22 x23 x24 x25 x26 x27 x28 x29 x30 x31 x32 x33 x34, T = #[x0, x1, x2, x3, x4, x5, x6, x7, x8, x9, x10, x11, x12, x13, x14, x15, x16, x17, x18, x19, x20, x21, x22, x23, x24, x25, x26, x27, x28, x29, x30, x31, x32, x33, x34] := by
            obtain ⟨Tl⟩ := T
            match Tl, hs with
            | x0 :: x1 :: x2 :: x3 :: x4 :: x5 :: x6 :: x7 :: x8 :: x9 :: x10 :: x11 :: x12 :: x13 :: x14 :: x15 :: x16 :: x17 :: x18 :: x19 :: x20 :: x21 :: x22 :: x23 :: x24 :: x25 :: x26 :: x27 :: x28 :: x29 :: x30 :: x31 :: x32 :: x33 :: x34 :: [], _ => exact ⟨x0, x1, x2, x3, x4, x5, x6, x7, x8, x9, x10, x11, x12, x13, x14, x15, x16, x17, x18, x19, x20, x21, x22, x23, x24, x25, x26, x27, x28, x29, x30, x31, x32, x33, x34, rfl⟩
          have q0 : x0 = .slice ao ps.length cap := Option.some.inj g0
          have q1 : x1 = .pointer (some ⟨w.heap.size, 0, none⟩) := Option.some.inj g1
          have q2 : x2 = .pointer (some ⟨w.heap.size + 1, 0, none⟩) := Option.some.inj g2
          have q3 : x3 = .pointer (some ⟨Bi, 0, none⟩) := Option.some.inj g3
          have q4 : x4 = .pointer (some ⟨Be, 0, none⟩) := Option.some.inj g4
          have q5 : x5 = .int .i64 (y.1 : Int) := Option.some.inj g5
          have q6 : x6 = .pointer (some ⟨Bf, 0, none⟩) := Option.some.inj g6
          have q7 : x7 = .slice ao ps.length cap := Option.some.inj g7
          have q8 : x8 = .func (.func 42) #[] #[.pointer (some ⟨w.heap.size + 1 + 1, 0, none⟩)] := Option.some.inj g8
          have q9 : x9 = .int .i64 (x.1 : Int) := Option.some.inj g9
          have q10 : x10 = .agg #[.int .i64 (cx ps x.1), .int .i64 (cy ps x.1), .int .i64 (cx ps (nx ps.length x.1)), .int .i64 (cy ps (nx ps.length x.1))] := Option.some.inj g10
          have q11 : x11 = .slice ao ps.length cap := Option.some.inj g11
          have q12 : x12 = .func (.func 42) #[] #[.pointer (some ⟨W.heap.size, 0, none⟩)] := Option.some.inj g12
          have q13 : x13 = .int .i64 (y.1 : Int) := Option.some.inj g13
          have q14 : x14 = .agg #[.int .i64 (cx ps y.1), .int .i64 (cy ps y.1), .int .i64 (cx ps (nx ps.length y.1)), .int .i64 (cy ps (nx ps.length y.1))] := Option.some.inj g14
          have q15 : x15 = .int .i64 (y.1 : Int) := Option.some.inj g15
          have q16 : x16 = .int .i64 (x.1 : Int) := Option.some.inj g16
          have q17 : x17 = .int .i64 ((x.1 : Int) + 1) := Option.some.inj g17
          have q18 : x18 = .bool true := Option.some.inj g18
          have q19 : x19 = .bool true := Option.some.inj g19
          have q25 : x25 = .bool true := Option.some.inj g25
          clear g0 g1 g2 g3 g4 g5 g6 g7 g8 g9 g10 g11 g12 g13 g14 g15 g16 g17 g18 g19 g25
          subst q0 q1 q2 q3 q4 q5 q6 q7 q8 q9 q10 q11 q12 q13 q14 q15 q16 q17 q18 q19 q25
          clear s15 s16 s17 s18 s19 s20 s21 s22 s23 s24 s25
          have hBW2 := hBW.trans (hb.mono hsW1)
          have kf : ∀ B, KeepsFrom B W1 w2 := fun B => KeepsFrom.of_grownBy (grown_of_below hb) (fun j e => by cases e)
          have kk : KpE w.heap.size W.heap.size W1 w2 := ⟨hb.mono hsW1, hb.block _ (by omega)⟩
          have hR2 := blk_call hR1 hb
          have hP2 := blk_call hP1 hb
          have hN2 := blk_call hN1 hb
          have hi2 := blk_call hi1 hb
          have he2 := blk_call he1 hb
          have hf2 := blk_call hf1 hb
          have hz2 := hb.size
          clear hb hP1 hR1 hN1 hi1 he1 hf1 ki kp
          gi_wp2
          exact ⟨kf _, kk, ⟨⟨⟨⟨⟨fun j hj => by
            rw [vals_snoc, List.mem_append, List.mem_singleton] at hj
            rcases hj with hj | rfl
            · exact HQ.out j hj
            · exact hM.out, hP2⟩, hR2⟩, hN2⟩, hi2⟩, he2⟩, ⟨hBW2, hKF.trans (kf _)⟩, by omega⟩
      · have hAi : decide ((y.1 : Int) ≤ (x.1 : Int) + 1) = false := decide_eq_false (by omega)
        gi_upto_region 7 with fail
        obtain ⟨sp, hsp⟩ : ∃ sp : Told, sp = [none, none, none, none, none, none, none, none, none, none, none, none, none, none, none, some (.inl (.int .i64 (y.1 : Int))), some (.inl (.int .i64 (x.1 : Int))), some (.inl (.int .i64 ((x.1 : Int) + 1))), some (.inl (.bool false)), some (.inl (.bool false)), some (.inl (.slice ao ps.length cap)), some (.inl (.int .i64 (y.1 : Int))), some (.inl (.int .i64 (jn : Int))), some (.inl (.int .i64 (x.1 : Int))), some (.inl (.bool s)), some (.inl (.bool s))] := ⟨_, rfl⟩
        have s15 : sp.getD 15 none = some (.inl (.int .i64 (y.1 : Int))) := by rw [hsp]; rfl
        have s16 : sp.getD 16 none = some (.inl (.int .i64 (x.1 : Int))) := by rw [hsp]; rfl
        have s17 : sp.getD 17 none = some (.inl (.int .i64 ((x.1 : Int) + 1))) := by rw [hsp]; rfl
        have s18 : sp.getD 18 none = some (.inl (.bool false)) := by rw [hsp]; rfl
        have s19 : sp.getD 19 none = some (.inl (.bool false)) := by rw [hsp]; rfl
        have s20 : sp.getD 20 none = some (.inl (.slice ao ps.length cap)) := by rw [hsp]; rfl
        have s21 : sp.getD 21 none = some (.inl (.int .i64 (y.1 : Int))) := by rw [hsp]; rfl
        have s22 : sp.getD 22 none = some (.inl (.int .i64 (jn : Int))) := by rw [hsp]; rfl
        have s23 : sp.getD 23 none = some (.inl (.int .i64 (x.1 : Int))) := by rw [hsp]; rfl
        have s24 : sp.getD 24 none = some (.inl (.bool s)) := by rw [hsp]; rfl
        have s25 : sp.getD 25 none = some (.inl (.bool s)) := by rw [hsp]; rfl
        clear hsp
        refine region_obs_in sp rfl rfl rfl (by kernel_rfl) (by rintro ⟨_, _, h⟩; exact h) (by kernel_rfl) (by kernel_rfl) ?_ ?_
        · rw [List.toList_toArray]
          refine obs_cons ?_ ?_
          · intro T wx K hB hF hD hK
            have g5 : T[5]? = some (.int .i64 (y.1 : Int)) := hF 5 (free_of (by kernel_rfl))
            refine ob_yes (wanted_none rfl) ?_
            clear hF hD
            go_simp
            exact hK _ _ (Below.refl _ _) (rt_eq s15)
          refine obs_cons ?_ ?_
          · intro T wx K hB hF hD hK
            have g3 : T[3]? = some (.pointer (some ⟨Bi, 0, none⟩)) := hF 3 (free_of (by kernel_rfl))
            refine ob_yes (wanted_none rfl) ?_
            clear hF hD
            have c0 := cell_call ki hB
            go_simp
            exact hK _ _ (Below.refl _ _) (rt_eq s16)
          refine obs_cons ?_ ?_
          · intro T wx K hB hF hD hK
            have g16 := get_eq (hD 1 16 (by simp [Region.binds]) (by kernel_rfl)) s16
            refine ob_yes (wanted_none rfl) ?_
            clear hF hD
            go_simp
            exact hK _ _ (Below.refl _ _) (rt_eq s17)
          refine obs_cons ?_ ?_
          · intro T wx K hB hF hD hK
            have g15 := get_eq (hD 0 15 (by simp [Region.binds]) (by kernel_rfl)) s15
            have g17 := get_eq (hD 2 17 (by simp [Region.binds]) (by kernel_rfl)) s17
            refine ob_yes (wanted_none rfl) ?_
            clear hF hD
            go_simp
            exact hK _ _ (Below.refl _ _) (rt_eq s18)
          refine obs_cons ?_ ?_
          · intro T wx K hB hF hD hK
            have g18 := get_eq (hD 3 18 (by simp [Region.binds]) (by kernel_rfl)) s18
            refine ob_yes (wanted_none rfl) ?_
            clear hF hD
            go_simp
            exact hK _ _ (Below.refl _ _) (rt_eq s19)
          refine obs_cons ?_ ?_
          · intro T wx K hB hF hD hK
            have g19 := get_eq (hD 4 19 (by simp [Region.binds]) (by kernel_rfl)) s19
            have g1 : T[1]? = some (.pointer (some ⟨w.heap.size, 0, none⟩)) := hF 1 (free_of (by kernel_rfl))
            refine ob_yes (wanted_yes rfl (by kernel_rfl) g19) ?_
            clear hF hD
            have c0 := cell_call kp hB
            go_simp
            exact hK _ _ (Below.refl _ _) (rt_eq s20)
          refine obs_cons ?_ ?_
          · intro T wx K hB hF hD hK
            have g19 := get_eq (hD 4 19 (by simp [Region.binds]) (by kernel_rfl)) s19
            have g5 : T[5]? = some (.int .i64 (y.1 : Int)) := hF 5 (free_of (by kernel_rfl))
            refine ob_yes (wanted_yes rfl (by kernel_rfl) g19) ?_
            clear hF hD
            go_simp
            exact hK _ _ (Below.refl _ _) (rt_eq s21)
          refine obs_cons ?_ ?_
          · intro T wx K hB hF hD hK
            have g19 := get_eq (hD 4 19 (by simp [Region.binds]) (by kernel_rfl)) s19
            have g20 := get_eq (hD 5 20 (by simp [Region.binds]) (by kernel_rfl)) s20
            have g21 := get_eq (hD 6 21 (by simp [Region.binds]) (by kernel_rfl)) s21
            refine ob_yes (wanted_yes rfl (by kernel_rfl) g19) ?_
            clear hF hD
            go_simp
            refine (next_is _ ps.length cap y.1 jn _ h0 hle (by omega) HJ).mono ?_; rintro e w9 ⟨rfl, rfl⟩
            exact hK _ _ (Below.refl _ _) (rt_eq s22)
          refine obs_cons ?_ ?_
          · intro T wx K hB hF hD hK
            have g19 := get_eq (hD 4 19 (by simp [Region.binds]) (by kernel_rfl)) s19
            have g3 : T[3]? = some (.pointer (some ⟨Bi, 0, none⟩)) := hF 3 (free_of (by kernel_rfl))
            refine ob_yes (wanted_yes rfl (by kernel_rfl) g19) ?_
            clear hF hD
            have c0 := cell_call ki hB
            go_simp
            exact hK _ _ (Below.refl _ _) (rt_eq s23)
          refine obs_cons ?_ ?_
          · intro T wx K hB hF hD hK
            have g19 := get_eq (hD 4 19 (by simp [Region.binds]) (by kernel_rfl)) s19
            have g22 := get_eq (hD 7 22 (by simp [Region.binds]) (by kernel_rfl)) s22
            have g23 := get_eq (hD 8 23 (by simp [Region.binds]) (by kernel_rfl)) s23
            refine ob_yes (wanted_yes rfl (by kernel_rfl) g19) ?_
            clear hF hD
            go_simp
            exact hK _ _ (Below.refl _ _) (rt_eq s24)
          refine obs_cons ?_ ?_
          · intro T wx K hB hF hD hK
            have g19 := get_eq (hD 4 19 (by simp [Region.binds]) (by kernel_rfl)) s19
            have g24 := get_eq (hD 9 24 (by simp [Region.binds]) (by kernel_rfl)) s24
            refine ob_yes (wanted_none rfl) ?_
            clear hF hD
            go_simp
            exact hK _ _ (Below.refl _ _) (rt_eq s25)
          exact obs_nil
        · intro T w2 hb hF hs hD
          have g15 := get_eq (hD 0 15 (by kernel_rfl)) s15
          have g16 := get_eq (hD 1 16 (by kernel_rfl)) s16
          have g17 := get_eq (hD 2 17 (by kernel_rfl)) s17
          have g18 := get_eq (hD 3 18 (by kernel_rfl)) s18
          have g19 := get_eq (hD 4 19 (by kernel_rfl)) s19
          have g20 := get_eq (hD 5 20 (by kernel_rfl)) s20
          have g21 := get_eq (hD 6 21 (by kernel_rfl)) s21
          have g22 := get_eq (hD 7 22 (by kernel_rfl)) s22
          have g23 := get_eq (hD 8 23 (by kernel_rfl)) s23
          have g24 := get_eq (hD 9 24 (by kernel_rfl)) s24
          have g25 := get_eq (hD 10 25 (by kernel_rfl)) s25
          have g0 := hF 0 (free_of (by kernel_rfl))
          have g1 := hF 1 (free_of (by kernel_rfl))
          have g2 := hF 2 (free_of (by kernel_rfl))
          have g3 := hF 3 (free_of (by kernel_rfl))
          have g4 := hF 4 (free_of (by kernel_rfl))
          have g5 := hF 5 (free_of (by kernel_rfl))
          have g6 := hF 6 (free_of (by kernel_rfl))
          have g7 := hF 7 (free_of (by kernel_rfl))
          have g8 := hF 8 (free_of (by kernel_rfl))
          have g9 := hF 9 (free_of (by kernel_rfl))
          have g10 := hF 10 (free_of (by kernel_rfl))
          have g11 := hF 11 (free_of (by kernel_rfl))
          have g12 := hF 12 (free_of (by kernel_rfl))
          have g13 := hF 13 (free_of (by kernel_rfl))
          have g14 := hF 14 (free_of (by kernel_rfl))
          clear hF hD
          obtain ⟨x0, x1, x2, x3, x4, x5, x6, x7, x8, x9, x10, x11, x12, x13, x14, x15, x16, x17, x18, x19, x20, x21, x22, x23, x24, x25, x26, x27, x28, x29, x30, x31, x32, x33, x34, rfl⟩ : ∃ x0 x1 x2 x3 x4 x5 x6 x7 x8 x9 x10 x11 x12 x13 x14 x15 x16 x17 x18 x19 x20 x21 x22 x23 x24 x25 x26 x27 x28 x29 x30 x31 x32 x33 x34, T = #[x0, x1, x2, x3, x4, x5, x6, x7, x8, x9, x10, x11, x12, x13, x14, x15, x16, x17, x18, x19, x20, x21, x22, x23, x24, x25, x26, x27, x28, x29, x30, x31, x32, x33, x34] := by
            obtain ⟨Tl⟩ := T
            match Tl, hs with
            | x0 :: x1 :: x2 :: x3 :: x4 :: x5 :: x6 :: x7 :: x8 :: x9 :: x10 :: x11 :: x12 :: x13 :: x14 :: x15 :: x16 :: x17 :: x18 :: x19 :: x20 :: x21 :: x22 :: x23 :: x24 :: x25 :: x26 :: x27 :: x28 :: x29 :: x30 :: x31 :: x32 :: x33 :: x34 :: [], _ => exact ⟨x0, x1, x2, x3, x4, x5, x6, x7, x8, x9, x10, x11, x12, x13, x14, x15, x16, x17, x18, x19, x20, x21, x22, x23, x24, x25, x26, x27, x28, x29, x30, x31, x32, x33, x34, rfl⟩
          have q0 : x0 = .slice ao ps.length cap := Option.some.inj g0
          have q1 : x1 = .pointer (some ⟨w.heap.size, 0, none⟩) := Option.some.inj g1
          have q2 : x2 = .pointer (some ⟨w.heap.size + 1, 0, none⟩) := Option.some.inj g2
          have q3 : x3 = .pointer (some ⟨Bi, 0, none⟩) := Option.some.inj g3
          have q4 : x4 = .pointer (some ⟨Be, 0, none⟩) := Option.some.inj g4
          have q5 : x5 = .int .i64 (y.1 : Int) := Option.some.inj g5
          have q6 : x6 = .pointer (some ⟨Bf, 0, none⟩) := Option.some.inj g6
          have q7 : x7 = .slice ao ps.length cap := Option.some.inj g7
          have q8 : x8 = .func (.func 42) #[] #[.pointer (some ⟨w.heap.size + 1 + 1, 0, none⟩)] := Option.some.inj g8
          have q9 : x9 = .int .i64 (x.1 : Int) := Option.some.inj g9
          have q10 : x10 = .agg #[.int .i64 (cx ps x.1), .int .i64 (cy ps x.1), .int .i64 (cx ps (nx ps.length x.1)), .int .i64 (cy ps (nx ps.length x.1))] := Option.some.inj g10
          have q11 : x11 = .slice ao ps.length cap := Option.some.inj g11
          have q12 : x12 = .func (.func 42) #[] #[.pointer (some ⟨W.heap.size, 0, none⟩)] := Option.some.inj g12
          have q13 : x13 = .int .i64 (y.1 : Int) := Option.some.inj g13
          have q14 : x14 = .agg #[.int .i64 (cx ps y.1), .int .i64 (cy ps y.1), .int .i64 (cx ps (nx ps.length y.1)), .int .i64 (cy ps (nx ps.length y.1))] := Option.some.inj g14
          have q15 : x15 = .int .i64 (y.1 : Int) := Option.some.inj g15
          have q16 : x16 = .int .i64 (x.1 : Int) := Option.some.inj g16
          have q17 : x17 = .int .i64 ((x.1 : Int) + 1) := Option.some.inj g17
          have q18 : x18 = .bool false := Option.some.inj g18
          have q19 : x19 = .bool false := Option.some.inj g19
          have q20 : x20 = .slice ao ps.length cap := Option.some.inj g20
          have q21 : x21 = .int .i64 (y.1 : Int) := Option.some.inj g21
          have q22 : x22 = .int .i64 (jn : Int) := Option.some.inj g22
          have q23 : x23 = .int .i64 (x.1 : Int) := Option.some.inj g23
          have q24 : x24 = .bool s := Option.some.inj g24
          have q25 : x25 = .bool s := Option.some.inj g25
          clear g0 g1 g2 g3 g4 g5 g6 g7 g8 g9 g10 g11 g12 g13 g14 g15 g16 g17 g18 g19 g20 g21 g22 g23 g24 g25
          subst q0 q1 q2 q3 q4 q5 q6 q7 q8 q9 q10 q11 q12 q13 q14 q15 q16 q17 q18 q19 q20 q21 q22 q23 q24 q25
          clear s15 s16 s17 s18 s19 s20 s21 s22 s23 s24 s25
          have hBW2 := hBW.trans (hb.mono hsW1)
          have kf : ∀ B, KeepsFrom B W1 w2 := fun B => KeepsFrom.of_grownBy (grown_of_below hb) (fun j e => by cases e)
          have kk : KpE w.heap.size W.heap.size W1 w2 := ⟨hb.mono hsW1, hb.block _ (by omega)⟩
          have hR2 := blk_call hR1 hb
          have hP2 := blk_call hP1 hb
          have hN2 := blk_call hN1 hb
          have hi2 := blk_call hi1 hb
          have he2 := blk_call he1 hb
          have hf2 := blk_call hf1 hb
          have hz2 := hb.size
          clear hb hP1 hR1 hN1 hi1 he1 hf1 ki kp
          cases s
          · obtain ⟨g, hg⟩ : ∃ g, segE ps x.1 y.1 = g := ⟨_, rfl⟩
            have hM : Hid (meetB ps x.1 y.1 = g) := Lib.hid (by unfold meetB skipE; rw [HJ2.out, HS.out, hg]; simp; omega)
            obtain ⟨i1, i2⟩ := hv x.1 hxl
            obtain ⟨i3, i4⟩ := hv _ (nx_lt (i := x.1) h0)
            obtain ⟨i5, i6⟩ := hv y.1 hyl
            obtain ⟨i7, i8⟩ := hv _ (nx_lt (i := y.1) h0)
            unfold segE at hg
            have HG := Lib.hid hg
            have e0 := blk_cell he2 0 _ rfl
            have e1 := blk_cell he2 1 _ rfl
            have e2 := blk_cell he2 2 _ rfl
            have e3 := blk_cell he2 3 _ rfl
            have f0 := blk_cell hf2 0 _ rfl
            have f1 := blk_cell hf2 1 _ rfl
            have f2 := blk_cell hf2 2 _ rfl
            have f3 := blk_cell hf2 3 _ rfl
            clear hg
            have hz4 : W.heap.size < w2.heap.size := by omega
            cases g
            · gi_wp2_with (refine ⟨trivial, ?_⟩; gi_at_call 23; refine (CallsIn.inRound l2 (CallsIn.inRound l (callsIn_wide.2 (cross_is _ _ _ _ _ _ _ _ false _ HG i1 i2 i3 i4 i5 i6 i7 i8)))).mono ?_; rintro e w3 ⟨rfl, hb⟩; have hR3 := blk_call hR2 hb; have cR3 := blk_cell hR3 0 _ rfl; have fR3 := blk_fz hR3 0; have hP3 := blk_call hP2 hb; have hN3 := blk_call hN2 hb; have hi3 := blk_call hi2 hb; have he3 := blk_call he2 hb; have hB3 := hBW2.trans (hb.mono (Nat.le_trans hsW1 hz2)); have hz3 := hb.size; have kf3 : ∀ B, KeepsFrom B W1 w3 := fun B => (kf B).trans (KeepsFrom.of_grownBy (grown_of_below hb) (fun j e => by cases e)); have kk3 : KpE w.heap.size W.heap.size W1 w3 := kpE_t kk ⟨hb.mono (Nat.le_trans hsW1 hz2), hb.block _ (by omega)⟩)
              exact ⟨kf3 _, kk3, ⟨⟨⟨⟨⟨fun j hj => by
                rw [vals_snoc, List.mem_append, List.mem_singleton] at hj
                rcases hj with hj | rfl
                · exact HQ.out j hj
                · exact hM.out, hP3⟩, hR3⟩, hN3⟩, hi3⟩, he3⟩, ⟨hB3, hKF.trans (kf3 _)⟩, by omega⟩
            · gi_wp2_with (refine ⟨trivial, ?_⟩; gi_at_call 23; refine (CallsIn.inRound l2 (CallsIn.inRound l (callsIn_wide.2 (cross_is _ _ _ _ _ _ _ _ true _ HG i1 i2 i3 i4 i5 i6 i7 i8)))).mono ?_; rintro e w3 ⟨rfl, hb⟩; have hR3 := blk_call hR2 hb; have cR3 := blk_cell hR3 0 _ rfl; have fR3 := blk_fz hR3 0; have hP3 := blk_call hP2 hb; have hN3 := blk_call hN2 hb; have hi3 := blk_call hi2 hb; have he3 := blk_call he2 hb; have hB3 := hBW2.trans (hb.mono (Nat.le_trans hsW1 hz2)); have hz3 := hb.size; have kf3 : ∀ B, KeepsFrom B W1 w3 := fun B => (kf B).trans (KeepsFrom.of_grownBy (grown_of_below hb) (fun j e => by cases e)); have kk3 : KpE w.heap.size W.heap.size W1 w3 := kpE_t kk ⟨hb.mono (Nat.le_trans hsW1 hz2), hb.block _ (by omega)⟩)
              exact ⟨(kf3 _).trans ((KeepsOthers.setCell _ _ _).from _), ⟨⟨rfl, y.1, hyl, hM.out⟩, blk_set hR3 _⟩, hB3.setCell (p := ⟨w.heap.size + 1, 0, none⟩) (by simp) _, (hKF.trans (kf3 _)).trans ((KeepsOthers.setCell _ _ _).from _)⟩
          · have hM : Hid (meetB ps x.1 y.1 = false) := Lib.hid (by unfold meetB skipE; rw [HJ2.out, HS.out]; simp)
            gi_wp2
            exact ⟨kf _, kk, ⟨⟨⟨⟨⟨fun j hj => by
              rw [vals_snoc, List.mem_append, List.mem_singleton] at hj
              rcases hj with hj | rfl
              · exact HQ.out j hj
              · exact hM.out, hP2⟩, hR2⟩, hN2⟩, hi2⟩, he2⟩, ⟨hBW2, hKF.trans (kf _)⟩, by omega⟩
    case done2 =>
      rintro ys' W1 rfl ⟨⟨⟨⟨⟨⟨hq, hP1⟩, hR1⟩, hN1⟩, hi1⟩, he1⟩, ⟨hBW, hKF⟩, hz1⟩
      rw [vals_upE] at hq
      gi_wp2
      exact ⟨hKF, ⟨hBW, hN1.trans hN.symm⟩, ⟨⟨⟨fun i hi j hj => by
        rw [vals_snoc, List.mem_append, List.mem_singleton] at hi
        rcases hi with hi | rfl
        · exact hp i hi j hj
        · exact hq j (List.mem_range.2 hj), hP1⟩, hR1⟩, hN1⟩, hB.trans hBW, by omega⟩
    case stop2 =>
      rintro c pre' W1 hpre ⟨⟨⟨rfl, j, hj, hm⟩, hR1⟩, hBW, hKF⟩
      gi_wp2
      exact ⟨hKF, ⟨⟨rfl, x.1, j, hxl, hj, hm⟩, hR1⟩, hB.trans hBW⟩
  case done =>
    rintro D ys W hD rfl ⟨⟨⟨⟨hp, hPb⟩, hR⟩, hN⟩, hB, hz⟩ hK
    rw [vals_upE] at hp
    have HE : Hid (simpleB ps = true) := Lib.hid (List.all_eq_true.2 fun i hi => List.all_eq_true.2 fun j hj => by rw [hp i hi j (List.mem_range.1 hj)]; rfl)
    have cR := blk_cell hR 0 _ rfl
    have fR := blk_fz hR 0
    clear hp
    gi_wp2
    have hK' := (KeepsOthers.setCell W ⟨w.heap.size + 1, 0, none⟩ (.bool true)).same D _ hK rfl
    refine ⟨by simp, .inl ⟨_, _, rfl, run_takeDeferred hK', ?_⟩⟩
    have hc5 := cell_kept (World.cell?_setCell_same' W ⟨w.heap.size + 1, 0, none⟩ (.bool true) (by rw [cR]; rfl)) (grownBy_putObj' _ D (.deferred none)) (fun r e => by cases e; exact ⟨_, hK', rfl⟩)
    refine ⟨.bool true, by simp [results, Tryd.f27, go_sem, hc5], by rw [HE.out], (hB.setCell (p := ⟨w.heap.size + 1, 0, none⟩) (by simp) _).trans (belowK_b (w := w) (Nat.le_refl _) _ D _ _ (by omega) hK' rfl rfl)⟩
  case stop =>
    rintro D c pre W hD hSp ⟨⟨⟨rfl, i, j, hi, hj, hm⟩, hR⟩, hB⟩ hK
    have HE : Hid (simpleB ps = false) := Lib.hid (by rw [simpleB, List.all_eq_false]; exact ⟨i, List.mem_range.2 hi, by rw [Bool.not_eq_true, List.all_eq_false]; exact ⟨j, List.mem_range.2 hj, by rw [hm]; simp⟩⟩)
    clear hm
    gi_wp2
    refine ⟨by simp, .inl ⟨_, _, rfl, run_takeDeferred hK, ?_⟩⟩
    have hc5 := cell_kept (blk_cell hR 0 _ rfl) (grownBy_putObj' _ D (.deferred none)) (fun r e => by cases e; exact ⟨_, hK, rfl⟩)
    refine ⟨.bool false, by simp [results, Tryd.f27, go_sem, hc5], by rw [HE.out], hB.trans (belowK_b (w := w) (Nat.le_refl _) _ D _ _ (by omega) hK rfl rfl)⟩
end Go.Proofs.YthmcejeeohlafaaDoor
