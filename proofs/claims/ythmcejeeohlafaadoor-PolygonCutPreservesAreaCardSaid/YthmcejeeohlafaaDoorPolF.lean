/- Contract of package polygon: Locate. Conditions: the slice reads as the list says; the coordinates are in range. -/
import Derived.Test.YthmcejeeohlafaaDoorPolD
import Derived.Test.YthmcejeeohlafaaDoorPolE
namespace Go.Proofs.YthmcejeeohlafaaDoor
open Go.ChangeShapes Go.WideShapes Go.ChangeAt Go.RowKit
attribute [local go_sem] Oper.semAt_some
set_option linter.unusedVariables false
set_option linter.unusedSimpArgs false

def onE (ps : List (Int × Int)) (p q : Int) (i : Nat) : Bool := onB (cx ps i) (cy ps i) (cx ps (nx ps.length i)) (cy ps (nx ps.length i)) p q
def rayE (ps : List (Int × Int)) (p q : Int) (i : Nat) : Bool := rayB (cx ps i) (cy ps i) (cx ps (nx ps.length i)) (cy ps (nx ps.length i)) p q
def sideF (r : Nat → Bool) (l : List Nat) : Int := l.foldl (fun s i => if r i then -s else s) (-1)
theorem sideF_snoc (r : Nat → Bool) (l : List Nat) (i : Nat) : sideF r (l ++ [i]) = if r i then -sideF r l else sideF r l := by simp [sideF]
theorem sideF_pm (r : Nat → Bool) (l : List Nat) : sideF r l = -1 ∨ sideF r l = 1 := by
  have : ∀ (l : List Nat) (s : Int), s = -1 ∨ s = 1 → l.foldl (fun s i => if r i then -s else s) s = -1 ∨ l.foldl (fun s i => if r i then -s else s) s = 1 := by
    intro l
    induction l with
    | nil => intro s h; exact h
    | cons i l ih => intro s h; exact ih _ (by dsimp only; split <;> omega)
  exact this l (-1) (.inl rfl)
def locE (ps : List (Int × Int)) (p q : Int) : Int := if (List.range ps.length).any (onE ps p q) then 0 else sideF (rayE ps p q) (List.range ps.length)
theorem onseg_is (a b c d p q : Int) (t : Bool) (w : World) (ht : Hid (onB a b c d p q = t)) (ha : InR a) (hb : InR b) (hc : InR c) (hd : InR d) (hp : InR p) (hq : InR q) :
    Calls Tryd.prog 29 #[.agg #[.int .i64 a, .int .i64 b], .agg #[.int .i64 c, .int .i64 d], .agg #[.int .i64 p, .int .i64 q]] w fun e w' => e = .returned (.bool t) ∧ Below w.heap.size w w' := by
  have := onseg_any a b c d p q w ha hb hc hd hp hq
  rw [ht.out] at this
  exact this


set_option maxRecDepth 100000 in
set_option maxHeartbeats 16000000 in
theorem locate_any (ao : Option Addr) (cap : Nat) (ps : List (Int × Int)) (p q : Int) (w : World) (h0 : 0 < ps.length) (hle : ps.length ≤ 1000000) (hP : PRow w ao ps) (hv : AllR2 ps) (ip : InR p) (iq : InR q) :
    Calls Tryd.prog 16 #[.slice ao ps.length cap, .agg #[.int .i64 p, .int .i64 q]] w fun e w' => e = .returned (.int .i64 (locE ps p q)) ∧ Below w.heap.size w w' := by
  refine (callsIn_wide (n := 5)).1 ?_
  refine callsIn_of_wp_marks Tryd.func16 rfl trivial ?_ rfl
  simp only [Tryd.ntmps16, List.size_toArray, List.length_cons, List.length_nil, Nat.reduceAdd, Nat.reduceSub, Array.replicate_succ, Array.replicate_zero, List.push_toArray, List.append_toArray, List.nil_append, List.cons_append]
  gi_wp2_with (refine ⟨trivial, ?_⟩; gi_at_call 28; refine (callsIn_wide.2 (edges_is ao ps.length cap _)).mono ?_; rintro e w' ⟨rfl, rfl⟩)
  obtain ⟨W0, hW0⟩ : ∃ W0, (((w.alloc (.cells #[.int .i64 p, .int .i64 q] 25)).alloc (.cells #[.int .i64 0] 3)).alloc (.cells #[.int .i64 (-1)] 3)).alloc (.cells #[.slice ao ps.length cap] 23) = W0 := ⟨_, rfl⟩
  have hX0 : W0.heap[w.heap.size]? = some (.cells #[.int .i64 p, .int .i64 q] 25 (0, 0)) := by rw [← hW0]; exact blk_alloc (blk_alloc (blk_alloc (blk_new _ _ _ rfl) _) _) _
  have hR0 : W0.heap[w.heap.size + 1]? = some (.cells #[.int .i64 0] 3 (0, 0)) := by rw [← hW0]; exact blk_alloc (blk_alloc (blk_new _ _ _ (by simp)) _) _
  have hS0 : W0.heap[w.heap.size + 1 + 1]? = some (.cells #[.int .i64 (-1)] 3 (0, 0)) := by rw [← hW0]; exact blk_alloc (blk_new _ _ _ (by simp)) _
  have hN0 : W0.heap[w.heap.size + 1 + 1 + 1]? = some (.cells #[.slice ao ps.length cap] 23 (0, 0)) := by rw [← hW0]; exact blk_new _ _ _ (by simp)
  have hB0 : Below w.heap.size w W0 := by rw [← hW0]; exact belA (belA (belA (belA (Below.refl _ _) _) _) _) _
  have hsz : w.heap.size + 1 + 1 + 1 < W0.heap.size := by rw [← hW0]; simp
  rw [hW0]
  clear hW0
  refine wpIn_rangeFunc_ownH rfl (by omega) (gf := 42) (lb := #[.pointer (some ⟨w.heap.size + 1 + 1 + 1, 0, none⟩)]) rfl trivial (enters_of Tryd.func42 (by kernel_rfl) rfl)
    (edges_stops (5 - 1) (by omega) (w.heap.size + 1 + 1 + 1) ao cap ps w W0 h0 hle hP hB0 hN0) kpE_t (kpE_b (by omega) (by omega)) (Below.refl _ _) (fun _ => rfl)
    (fun pre W => ((((∀ i ∈ vals pre, onE ps p q i = false) ∧ W.heap[w.heap.size]? = some (.cells #[.int .i64 p, .int .i64 q] 25 (0, 0))) ∧ W.heap[w.heap.size + 1]? = some (.cells #[.int .i64 0] 3 (0, 0))) ∧ W.heap[w.heap.size + 1 + 1]? = some (.cells #[.int .i64 (sideF (rayE ps p q) (vals pre))] 3 (0, 0))) ∧ Below w.heap.size w W ∧ W0.heap.size ≤ W.heap.size)
    (fun c pre W => ((c = .ret ∧ ∃ i, i < ps.length ∧ onE ps p q i = true) ∧ W.heap[w.heap.size + 1]? = some (.cells #[.int .i64 0] 3 (0, 0))) ∧ Below w.heap.size w W)
    (OwnFrom.and (OwnFrom.and (OwnFrom.and (OwnFrom.and (ownFrom_pure _ _) (Own.from (blk_own _ _ (fun _ => rfl)) _)) (Own.from (blk_own _ _ (fun _ => rfl)) _)) (Own.from (blk_own _ _ (fun _ => rfl)) _)) (OwnFrom.and (ownFrom_below (Nat.le_refl _) (by omega)) (own_size _ _)))
    (fun c => OwnFrom.and (OwnFrom.and (ownFrom_pure _ _) (Own.from (blk_own _ _ (fun _ => rfl)) _)) (ownFrom_below (Nat.le_refl _) (by omega)))
    ⟨⟨⟨⟨by simp [vals], hX0⟩, hR0⟩, hS0⟩, hB0, Nat.le_refl _⟩
    (fun x a' W => ∃ Bx, W0.heap.size ≤ Bx ∧ W.heap[Bx]? = some (.cells #[.int .i64 (cx ps x.1), .int .i64 (cy ps x.1), .int .i64 (cx ps (nx ps.length x.1)), .int .i64 (cy ps (nx ps.length x.1))] 50 (0, 0)) ∧ a' = { tmps := #[.slice ao ps.length cap, .agg #[.int .i64 p, .int .i64 q], undef, .pointer (some ⟨w.heap.size, 0, none⟩), .pointer (some ⟨w.heap.size + 1, 0, none⟩), .pointer (some ⟨w.heap.size + 1 + 1, 0, none⟩), undef, .pointer (some ⟨Bx, 0, none⟩), .slice ao ps.length cap, .func (.func 42) #[] #[.pointer (some ⟨w.heap.size + 1 + 1 + 1, 0, none⟩)], .int .i64 (x.1 : Int), .agg #[.int .i64 (cx ps x.1), .int .i64 (cy ps x.1), .int .i64 (cx ps (nx ps.length x.1)), .int .i64 (cy ps (nx ps.length x.1))], undef, undef, undef, undef, undef, undef, undef, undef, undef, undef, undef, undef], defers := [] })
    (fun x a' => fun _ X Y row ⟨Bx, h1, h2, h3⟩ hg hr => ⟨Bx, h1, (blk_own Bx (fun (_ : Unit) => (.cells #[.int .i64 (cx ps x.1), .int .i64 (cy ps x.1), .int .i64 (cx ps (nx ps.length x.1)), .int .i64 (cy ps (nx ps.length x.1))] 50 (0, 0))) (fun _ => rfl)).from _ () X Y row h2 hg hr, h3⟩)
    ?assign ?body ?done ?stop
  case assign =>
    rintro l pre x W K ⟨⟨⟨⟨hp, hX⟩, hR⟩, hS⟩, hB, hz⟩ hK
    rw [show encE ps x = #[.int .i64 (x.1 : Int), .agg #[.int .i64 (cx ps x.1), .int .i64 (cy ps x.1), .int .i64 (cx ps (nx ps.length x.1)), .int .i64 (cy ps (nx ps.length x.1))]] from rfl]
    gi_wp2
    exact hK _ _ ((KeepsOthers.alloc _ _).from _) (kpE_alloc _ hB.size (by omega)) ⟨⟨⟨⟨hp, blk_alloc hX _⟩, blk_alloc hR _⟩, blk_alloc hS _⟩, belA hB _, by simp; omega⟩ ⟨W.heap.size, hz, blk_new _ _ _ rfl, rfl⟩
  case body =>
    rintro l pre x a' W hl ⟨rl, hrl⟩ ⟨⟨⟨⟨hp, hX⟩, hR⟩, hS⟩, hB, hz⟩ ⟨Bx, hBx, hx, rfl⟩ hlen
    have hxl := x.2
    obtain ⟨i1, i2⟩ := hv x.1 hxl
    obtain ⟨i3, i4⟩ := hv _ (nx_lt (i := x.1) h0)
    obtain ⟨t, ht⟩ : ∃ t, onE ps p q x.1 = t := ⟨_, rfl⟩
    obtain ⟨u, hu⟩ : ∃ u, rayE ps p q x.1 = u := ⟨_, rfl⟩
    have HTX := Lib.hid ht
    have HUX := Lib.hid hu
    unfold onE at ht
    unfold rayE at hu
    obtain ⟨s, hs⟩ : ∃ s, sideF (rayE ps p q) (vals pre) = s := ⟨_, rfl⟩
    have hpm := sideF_pm (rayE ps p q) (vals pre)
    rw [hs] at hS hpm
    have HSF := Lib.hid hs
    have hws : IntKind.i64.wrap (-s) = -s := wrap_k _ (by omega)
    generalize cx ps x.1 = a1 at *
    generalize cy ps x.1 = a2 at *
    generalize cx ps (nx ps.length x.1) = e1 at *
    generalize cy ps (nx ps.length x.1) = e2 at *
    have HT : Hid (onB a1 a2 e1 e2 p q = t) := Lib.hid ht
    have HU : Hid (rayB a1 a2 e1 e2 p q = u) := Lib.hid hu
    have HP := Lib.hid hp
    have k0 := blk_cell hx 0 _ rfl
    have k1 := blk_cell hx 1 _ rfl
    have k2 := blk_cell hx 2 _ rfl
    have k3 := blk_cell hx 3 _ rfl
    have x0 := blk_cell hX 0 _ rfl
    have x1 := blk_cell hX 1 _ rfl
    clear ht hu hs hp hpm
    cases t
    · cases u
      · gi_wp2_with (first | (refine ⟨trivial, ?_⟩; gi_at_call 29; refine (CallsIn.inRound l (callsIn_wide.2 (onseg_is _ _ _ _ _ _ false _ HT i1 i2 i3 i4 ip iq))).mono ?_; rintro e w2 ⟨rfl, hb⟩; have hx2 := blk_call hx hb; have hX2 := blk_call hX hb; have y0 := blk_cell hx2 0 _ rfl; have y1 := blk_cell hx2 1 _ rfl; have y2 := blk_cell hx2 2 _ rfl; have y3 := blk_cell hx2 3 _ rfl; have v0 := blk_cell hX2 0 _ rfl; have v1 := blk_cell hX2 1 _ rfl) | (refine ⟨trivial, ?_⟩; gi_at_call 30; refine (CallsIn.inRound l (callsIn_wide.2 (cray_any _ _ _ _ _ _ false _ HU i1 i2 i3 i4 ip iq))).mono ?_; rintro e w3 ⟨rfl, hb'⟩))
        have hb3 := hb.trans (hb'.mono hb.size)
        exact ⟨KeepsFrom.of_grownBy (grown_of_below hb3) (fun j e => by cases e), ⟨hb3.mono hB.size, hb3.block _ (by omega)⟩, ⟨⟨⟨fun i hi => by
          rw [vals_snoc, List.mem_append, List.mem_singleton] at hi
          rcases hi with hi | rfl
          · exact HP.out i hi
          · exact HTX.out, blk_call hX hb3⟩, blk_call hR hb3⟩, by rw [vals_snoc, sideF_snoc, HUX.out, HSF.out]; exact blk_call hS hb3⟩, hB.trans (hb3.mono hB.size), Nat.le_trans hz hb3.size⟩
      · gi_wp2_with (first | (refine ⟨trivial, ?_⟩; gi_at_call 29; refine (CallsIn.inRound l (callsIn_wide.2 (onseg_is _ _ _ _ _ _ false _ HT i1 i2 i3 i4 ip iq))).mono ?_; rintro e w2 ⟨rfl, hb⟩; have hx2 := blk_call hx hb; have hX2 := blk_call hX hb; have y0 := blk_cell hx2 0 _ rfl; have y1 := blk_cell hx2 1 _ rfl; have y2 := blk_cell hx2 2 _ rfl; have y3 := blk_cell hx2 3 _ rfl; have v0 := blk_cell hX2 0 _ rfl; have v1 := blk_cell hX2 1 _ rfl) | (refine ⟨trivial, ?_⟩; gi_at_call 30; refine (CallsIn.inRound l (callsIn_wide.2 (cray_any _ _ _ _ _ _ true _ HU i1 i2 i3 i4 ip iq))).mono ?_; rintro e w3 ⟨rfl, hb'⟩; have hb3 := hb.trans (hb'.mono hb.size); have hS3 := blk_call hS hb3; have cS3 := blk_cell hS3 0 _ rfl; have fS3 := blk_fz hS3 0))
        exact ⟨(KeepsFrom.of_grownBy (grown_of_below hb3) (fun j e => by cases e)).trans ((KeepsOthers.setCell _ _ _).from _), kpE_t ⟨hb3.mono hB.size, hb3.block _ (by omega)⟩ ⟨(Below.refl _ _).setCell (by simp; omega) _, Below.heap_setCell _ _ _ _ (by simp)⟩, ⟨⟨⟨fun i hi => by
          rw [vals_snoc, List.mem_append, List.mem_singleton] at hi
          rcases hi with hi | rfl
          · exact HP.out i hi
          · exact HTX.out, blk_other (blk_call hX hb3) (by omega) _⟩, blk_other (blk_call hR hb3) (by omega) _⟩, by rw [vals_snoc, sideF_snoc, HUX.out, HSF.out]; exact blk_set hS3 _⟩, (hB.trans (hb3.mono hB.size)).setCell (by simp; omega) _, by show _ ≤ (w3.heap.modify _ _).size; rw [Array.size_modify]; exact Nat.le_trans hz hb3.size⟩
    · gi_wp2_with (refine ⟨trivial, ?_⟩; gi_at_call 29; refine (CallsIn.inRound l (callsIn_wide.2 (onseg_is _ _ _ _ _ _ true _ HT i1 i2 i3 i4 ip iq))).mono ?_; rintro e w2 ⟨rfl, hb⟩; have hR2 := blk_call hR hb; have cR2 := blk_cell hR2 0 _ rfl; have fR2 := blk_fz hR2 0)
      exact ⟨(KeepsFrom.of_grownBy (grown_of_below hb) (fun j e => by cases e)).trans ((KeepsOthers.setCell _ _ _).from _), ⟨⟨rfl, x.1, hxl, HTX.out⟩, blk_set hR2 _⟩, (hB.trans (hb.mono hB.size)).setCell (by simp) _⟩
  case done =>
    rintro D ys W hD rfl ⟨⟨⟨⟨hp, hX⟩, hR⟩, hS⟩, hB, hz⟩ hK
    rw [vals_upE] at hp hS
    have HE : Hid (locE ps p q = sideF (rayE ps p q) (List.range ps.length)) := Lib.hid (by
      unfold locE
      rw [if_neg]
      rw [Bool.not_eq_true, List.any_eq_false]
      exact fun i hi => by rw [hp i hi]; simp)
    have cR := blk_cell hR 0 _ rfl
    have fR := blk_fz hR 0
    have cS := blk_cell hS 0 _ rfl
    generalize sideF (rayE ps p q) (List.range ps.length) = s at *
    clear hp
    gi_wp2
    have hK' := (KeepsOthers.setCell W ⟨w.heap.size + 1, 0, none⟩ (.int .i64 s)).same D _ hK rfl
    refine ⟨by simp, .inl ⟨_, _, rfl, run_takeDeferred hK', ?_⟩⟩
    have hc5 := cell_kept (World.cell?_setCell_same' W ⟨w.heap.size + 1, 0, none⟩ (.int .i64 s) (by rw [cR]; rfl)) (grownBy_putObj' _ D (.deferred none)) (fun r e => by cases e; exact ⟨_, hK', rfl⟩)
    refine ⟨.int .i64 s, by simp [results, Tryd.f16, go_sem, hc5], by rw [HE.out], (hB.setCell (p := ⟨w.heap.size + 1, 0, none⟩) (by simp) _).trans (belowK_b (w := w) (Nat.le_refl _) _ D _ _ (by omega) hK' rfl rfl)⟩
  case stop =>
    rintro D c pre W hD hSp ⟨⟨⟨rfl, i, hi, hio⟩, hR⟩, hB⟩ hK
    have HE : Hid (locE ps p q = 0) := Lib.hid (by
      unfold locE
      rw [if_pos]
      rw [List.any_eq_true]
      exact ⟨i, List.mem_range.2 hi, hio⟩)
    clear hio
    gi_wp2
    refine ⟨by simp, .inl ⟨_, _, rfl, run_takeDeferred hK, ?_⟩⟩
    have hc5 := cell_kept (blk_cell hR 0 _ rfl) (grownBy_putObj' _ D (.deferred none)) (fun r e => by cases e; exact ⟨_, hK, rfl⟩)
    refine ⟨.int .i64 0, by simp [results, Tryd.f16, go_sem, hc5], by rw [HE.out], hB.trans (belowK_b (w := w) (Nat.le_refl _) _ D _ _ (by omega) hK rfl rfl)⟩
end Go.Proofs.YthmcejeeohlafaaDoor
