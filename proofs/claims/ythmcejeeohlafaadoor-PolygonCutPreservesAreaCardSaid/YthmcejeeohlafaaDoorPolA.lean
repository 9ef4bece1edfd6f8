/- Contracts of package polygon: next, edges and its iterator. Condition: the slice reads as the list says. -/
import Derived.Test.YthmcejeeohlafaaDoorPolReg
import Derived.Test.YthmcejeeohlafaaDoorGeoBlk
import Derived.Sort.CutIn
namespace Go.Proofs.YthmcejeeohlafaaDoor
open Go.ChangeShapes Go.WideShapes Go.ChangeAt Go.RowKit
attribute [local go_sem] Oper.semAt_some
set_option linter.unusedVariables false
set_option linter.unusedSimpArgs false

set_option maxHeartbeats 1000000 in
theorem next_is (ao : Option Addr) (n cap k j : Nat) (w : World) (hn : 0 < n) (hn' : n ≤ 1000000) (hk : k ≤ 1000000) (hj : Hid ((k + 1) % n = j)) :
    Calls Tryd.prog 41 #[.slice ao n cap, .int .i64 (k : Int)] w fun e w' => e = .returned (.int .i64 (j : Int)) ∧ w' = w := by
  have h0 : (n : Int) ≠ 0 := by omega
  have ht : ((k : Int) + 1).tmod (n : Int) = (j : Int) := by
    rw [← hj.out, Int.tmod_eq_emod_of_nonneg (by omega)]; simp
  go_enter Tryd.func41, Tryd.ntmps41
  go_wp2
  go_ret
  exact ⟨rfl, rfl⟩

theorem edges_is (ao : Option Addr) (n cap : Nat) (w : World) :
    Calls Tryd.prog 28 #[.slice ao n cap] w fun e w' => e = .returned (.func (.func 42) #[] #[.pointer (some ⟨w.heap.size, 0, none⟩)]) ∧ w' = w.alloc (.cells #[.slice ao n cap] 23) := by
  go_enter Tryd.func28, Tryd.ntmps28
  go_wp2
  go_ret
  exact ⟨rfl, rfl⟩

/-- The numbers of edges that have come when k rounds are over. -/
def upE (n : Nat) (h : 0 < n) (k : Nat) : List {i : Nat // i < n} := (List.range k).map fun j => ⟨j % n, Nat.mod_lt _ h⟩
theorem upE_succ (n : Nat) (h : 0 < n) (k : Nat) (hk : k < n) : upE n h (k + 1) = upE n h k ++ [⟨k, hk⟩] := by
  simp [upE, List.range_succ, Nat.mod_eq_of_lt hk]
theorem upE_length (n : Nat) (h : 0 < n) (k : Nat) : (upE n h k).length = k := by simp [upE]
theorem upE_vals (n : Nat) (h : 0 < n) (k : Nat) (hk : k ≤ n) : (upE n h k).map (·.1) = List.range k := by
  rw [upE, List.map_map]
  conv => rhs; rw [← List.map_id (List.range k)]
  exact List.map_congr_left fun a ha => by simp at ha; simp [Nat.mod_eq_of_lt (show a < n by omega)]
/-- The corner's coordinates; the next corner's number; what has come, as numbers. -/
def cx (ps : List (Int × Int)) (i : Nat) : Int := (ps.getD i (0, 0)).1
def cy (ps : List (Int × Int)) (i : Nat) : Int := (ps.getD i (0, 0)).2
def nx (n i : Nat) : Nat := (i + 1) % n
def vals {n : Nat} (l : List {i : Nat // i < n}) : List Nat := l.map (·.1)
theorem vals_snoc {n : Nat} (l : List {i : Nat // i < n}) (x : {i : Nat // i < n}) : vals (l ++ [x]) = vals l ++ [x.1] := by simp [vals]
theorem vals_upE (n : Nat) (h : 0 < n) : vals (upE n h n) = List.range n := upE_vals n h n (Nat.le_refl _)
/-- What yield is handed. -/
def encE (ps : List (Int × Int)) (x : {i : Nat // i < ps.length}) : Array Value :=
  #[.int .i64 (x.1 : Int), .agg #[.int .i64 (cx ps x.1), .int .i64 (cy ps x.1), .int .i64 (cx ps (nx ps.length x.1)), .int .i64 (cy ps (nx ps.length x.1))]]
/-- What a round must keep: what lay when the caller began, and the iterator's box. -/
def KpE (n₀ Bs : Nat) (W W' : World) : Prop := Below n₀ W W' ∧ W'.heap[Bs]? = W.heap[Bs]?

set_option maxRecDepth 100000 in
set_option maxHeartbeats 4000000 in
theorem edges1_in (n : Nat) (hn : 1 ≤ n) (l Bs : Nat) (ao : Option Addr) (cap : Nat) (ps : List (Int × Int)) (w0 : World) (h0 : 0 < ps.length) (hle : ps.length ≤ 1000000) (hP : PRow w0 ao ps) (J Jx : List {i : Nat // i < ps.length} → World → Prop)
    (hJ : ∀ pre W W', J pre W → Below W.heap.size W W' → J pre W')
    (hY : ∀ pre x W, J pre W → pre.length < ps.length → YieldAt Fence.wide (n - 1) Tryd.prog l (encE ps x) W fun e W' =>
      (e = .returned (.bool true) ∧ J (pre ++ [x]) W' ∧ KpE w0.heap.size Bs W W') ∨ (e = .returned (.bool false) ∧ Jx (pre ++ [x]) W'))
    (W : World) (hW : Below w0.heap.size w0 W) (hBs : W.heap[Bs]? = some (.cells #[.slice ao ps.length cap] 23 (0, 0))) (hJ0 : J [] W) :
    CallsIn Fence.wide n Tryd.prog 42 #[.func (.yield l) #[] #[], .pointer (some ⟨Bs, 0, none⟩)] W fun e W' => (∃ v, e = .returned v) ∧
      ((∃ ys, ys = upE ps.length h0 ps.length ∧ J ys W') ∨ (∃ pre, (∃ k, k ≤ ps.length ∧ pre = upE ps.length h0 k) ∧ Jx pre W')) := by
  have cB := blk_cell hBs 0 _ rfl
  refine callsIn_of_wp Tryd.func42 rfl trivial ?_ rfl
  simp only [Tryd.ntmps42, List.size_toArray, List.length_cons, List.length_nil, Nat.reduceAdd, Nat.reduceSub, Array.replicate_succ, Array.replicate_zero, List.push_toArray, List.append_toArray, List.nil_append, List.cons_append]
  gi_wp2
  gi_loopw [7] (fun i wr => ∃ k : Nat, k ≤ ps.length ∧ i = .int .i64 k ∧ J (upE ps.length h0 k) wr ∧ Below w0.heap.size w0 wr ∧ wr.heap[Bs]? = some (.cells #[.slice ao ps.length cap] 23 (0, 0)))
    (fun i _ => ps.length - (intOf i).toNat)
  case atStart => exact ⟨0, Nat.zero_le _, rfl, hJ0, hW, hBs⟩
  case round =>
    obtain ⟨k, hk, rfl, hJs, hB, hbs⟩ := hrel
    by_cases hlt : k < ps.length
    · obtain ⟨b, o, rfl, c1, c2⟩ := hP k hlt
      obtain ⟨j, hj⟩ : ∃ j, (k + 1) % ps.length = j := ⟨_, rfl⟩
      have hjl : j < ps.length := by rw [← hj]; exact Nat.mod_lt _ h0
      obtain ⟨b', o', ho', c3, c4⟩ := hP j hjl
      obtain ⟨rfl, rfl⟩ : b = b' ∧ o = o' := by simpa using ho'
      obtain ⟨a1, a2, ha⟩ : ∃ a1 a2, ps.getD k (0, 0) = (a1, a2) := ⟨_, _, rfl⟩
      obtain ⟨e1, e2, he⟩ : ∃ e1 e2, ps.getD j (0, 0) = (e1, e2) := ⟨_, _, rfl⟩
      rw [ha] at c1 c2
      rw [he] at c3 c4
      dsimp only at c1 c2 c3 c4
      have d1 := (hB.cell (World.block_lt_of_cell? w0 _ c1)).trans c1
      have d2 := (hB.cell (World.block_lt_of_cell? w0 _ c2)).trans c2
      have d3 := (hB.cell (World.block_lt_of_cell? w0 _ c3)).trans c3
      have d4 := (hB.cell (World.block_lt_of_cell? w0 _ c4)).trans c4
      have cb := blk_cell hbs 0 _ rfl
      have HJ := Lib.hid hj
      have HA := Lib.hid ha
      have HE := Lib.hid he
      clear ho' c1 c2 c3 c4 hj ha he
      gi_upto_region 3 with fail
      have hf4 : (wr.alloc (.cells #[.int .i64 a1, .int .i64 a2] 25)).heap[wr.heap.size]? = some (.cells #[.int .i64 a1, .int .i64 a2] 25 (0, 0)) := blk_new _ _ _ rfl
      have hJ1 := hJ _ _ _ hJs (belA (Below.refl _ _) (.cells #[.int .i64 a1, .int .i64 a2] 25))
      replace hB := belA hB (.cells #[.int .i64 a1, .int .i64 a2] 25)
      replace hbs := blk_alloc hbs (.cells #[.int .i64 a1, .int .i64 a2] 25)
      have f3 := cell_alloc d3 (.cells #[.int .i64 a1, .int .i64 a2] 25)
      have f4 := cell_alloc d4 (.cells #[.int .i64 a1, .int .i64 a2] 25)
      clear d1 d2 d3 d4 cb hJs
      generalize wr.alloc (.cells #[.int .i64 a1, .int .i64 a2] 25) = w1 at *
      have f4a := blk_cell hf4 0 _ rfl
      have f4b := blk_cell hf4 1 _ rfl
      have fb := blk_cell hbs 0 _ rfl
      have HB := Lib.hid hB
      have HBS := Lib.hid hbs
      clear hB hbs hf4 cB hBs
      obtain ⟨sp, hsp⟩ : ∃ sp : Told, sp = [none, none, none, none, none, none, none, none, none, none, none, none, some (.inl (.func (.yield l) #[] #[])), some (.inl (.int .i64 (k : Int))), some (.inl (.agg #[.int .i64 a1, .int .i64 a2])), some (.inl (.slice (some ⟨b, o, none⟩) ps.length cap)), some (.inl (.slice (some ⟨b, o, none⟩) ps.length cap)), some (.inl (.int .i64 (k : Int))), some (.inl (.int .i64 (j : Int))), some (.inl (.pointer (some ⟨b, o + j * 2, none⟩))), some (.inl (.agg #[.int .i64 e1, .int .i64 e2])), some (.inl (.agg #[.int .i64 a1, .int .i64 a2, .int .i64 e1, .int .i64 e2]))] := ⟨_, rfl⟩
      have s12 : sp.getD 12 none = some (.inl (.func (.yield l) #[] #[])) := by rw [hsp]; rfl
      have s13 : sp.getD 13 none = some (.inl (.int .i64 (k : Int))) := by rw [hsp]; rfl
      have s14 : sp.getD 14 none = some (.inl (.agg #[.int .i64 a1, .int .i64 a2])) := by rw [hsp]; rfl
      have s15 : sp.getD 15 none = some (.inl (.slice (some ⟨b, o, none⟩) ps.length cap)) := by rw [hsp]; rfl
      have s16 : sp.getD 16 none = some (.inl (.slice (some ⟨b, o, none⟩) ps.length cap)) := by rw [hsp]; rfl
      have s17 : sp.getD 17 none = some (.inl (.int .i64 (k : Int))) := by rw [hsp]; rfl
      have s18 : sp.getD 18 none = some (.inl (.int .i64 (j : Int))) := by rw [hsp]; rfl
      have s19 : sp.getD 19 none = some (.inl (.pointer (some ⟨b, o + j * 2, none⟩))) := by rw [hsp]; rfl
      have s20 : sp.getD 20 none = some (.inl (.agg #[.int .i64 e1, .int .i64 e2])) := by rw [hsp]; rfl
      have s21 : sp.getD 21 none = some (.inl (.agg #[.int .i64 a1, .int .i64 a2, .int .i64 e1, .int .i64 e2])) := by rw [hsp]; rfl
      clear hsp
      refine region_head_in sp 10 rfl rfl rfl (by kernel_rfl) (by decide) (by kernel_rfl) (by kernel_rfl) (by kernel_rfl) ?_ ?_
      · intro Q'; show Obs _ _ _ _ _ _ _ (List.take _ _); simp only [List.take_succ_cons, List.take_zero]
        refine obs_cons ?_ ?_
        · intro T wx K hB hF hD hK
          have g0 : T[0]? = some (.func (.yield l) #[] #[]) := hF 0 (free_of (by kernel_rfl))
          refine ob_yes (wanted_none rfl) ?_
          clear hF hD
          go_simp
          exact hK _ _ (Below.refl _ _) (rt_eq s12)
        refine obs_cons ?_ ?_
        · intro T wx K hB hF hD hK
          have g3 : T[3]? = some (.int .i64 (k : Int)) := hF 3 (free_of (by kernel_rfl))
          refine ob_yes (wanted_none rfl) ?_
          clear hF hD
          go_simp
          exact hK _ _ (Below.refl _ _) (rt_eq s13)
        refine obs_cons ?_ ?_
        · intro T wx K hB hF hD hK
          have g4 : T[4]? = some (.pointer (some ⟨wr.heap.size, 0, none⟩)) := hF 4 (free_of (by kernel_rfl))
          refine ob_yes (wanted_none rfl) ?_
          clear hF hD
          have c0 := cell_call f4a hB
          have c1 := cell_call f4b hB
          go_simp
          exact hK _ _ (Below.refl _ _) (rt_eq s14)
        refine obs_cons ?_ ?_
        · intro T wx K hB hF hD hK
          have g1 : T[1]? = some (.pointer (some ⟨Bs, 0, none⟩)) := hF 1 (free_of (by kernel_rfl))
          refine ob_yes (wanted_none rfl) ?_
          clear hF hD
          have c0 := cell_call fb hB
          go_simp
          exact hK _ _ (Below.refl _ _) (rt_eq s15)
        refine obs_cons ?_ ?_
        · intro T wx K hB hF hD hK
          have g1 : T[1]? = some (.pointer (some ⟨Bs, 0, none⟩)) := hF 1 (free_of (by kernel_rfl))
          refine ob_yes (wanted_none rfl) ?_
          clear hF hD
          have c0 := cell_call fb hB
          go_simp
          exact hK _ _ (Below.refl _ _) (rt_eq s16)
        refine obs_cons ?_ ?_
        · intro T wx K hB hF hD hK
          have g3 : T[3]? = some (.int .i64 (k : Int)) := hF 3 (free_of (by kernel_rfl))
          refine ob_yes (wanted_none rfl) ?_
          clear hF hD
          go_simp
          exact hK _ _ (Below.refl _ _) (rt_eq s17)
        refine obs_cons ?_ ?_
        · intro T wx K hB hF hD hK
          have g16 := get_eq (hD 4 16 (by simp [Region.binds]) (by kernel_rfl)) s16
          have g17 := get_eq (hD 5 17 (by simp [Region.binds]) (by kernel_rfl)) s17
          refine ob_yes (wanted_none rfl) ?_
          clear hF hD
          have hji : (j : Int) < ps.length := by omega
          go_simp
          refine (next_is _ ps.length cap k j _ h0 hle (by omega) HJ).mono ?_; rintro e w9 ⟨rfl, rfl⟩
          exact hK _ _ (Below.refl _ _) (rt_eq s18)
        refine obs_cons ?_ ?_
        · intro T wx K hB hF hD hK
          have g15 := get_eq (hD 3 15 (by simp [Region.binds]) (by kernel_rfl)) s15
          have g18 := get_eq (hD 6 18 (by simp [Region.binds]) (by kernel_rfl)) s18
          refine ob_yes (wanted_none rfl) ?_
          clear hF hD
          go_simp
          exact hK _ _ (Below.refl _ _) (rt_eq s19)
        refine obs_cons ?_ ?_
        · intro T wx K hB hF hD hK
          have g19 := get_eq (hD 7 19 (by simp [Region.binds]) (by kernel_rfl)) s19
          refine ob_yes (wanted_none rfl) ?_
          clear hF hD
          have c0 := cell_call f3 hB
          have c1 := cell_call f4 hB
          go_simp
          exact hK _ _ (Below.refl _ _) (rt_eq s20)
        refine obs_cons ?_ ?_
        · intro T wx K hB hF hD hK
          have g14 := get_eq (hD 2 14 (by simp [Region.binds]) (by kernel_rfl)) s14
          have g20 := get_eq (hD 8 20 (by simp [Region.binds]) (by kernel_rfl)) s20
          refine ob_yes (wanted_none rfl) ?_
          clear hF hD
          go_simp
          exact hK _ _ (Below.refl _ _) (rt_eq s21)
        exact obs_nil
      · intro T w2 hb hF hs hD
        have g12 := get_eq (hD 0 12 (by decide) (by kernel_rfl)) s12
        have g13 := get_eq (hD 1 13 (by decide) (by kernel_rfl)) s13
        have g14 := get_eq (hD 2 14 (by decide) (by kernel_rfl)) s14
        have g15 := get_eq (hD 3 15 (by decide) (by kernel_rfl)) s15
        have g16 := get_eq (hD 4 16 (by decide) (by kernel_rfl)) s16
        have g17 := get_eq (hD 5 17 (by decide) (by kernel_rfl)) s17
        have g18 := get_eq (hD 6 18 (by decide) (by kernel_rfl)) s18
        have g19 := get_eq (hD 7 19 (by decide) (by kernel_rfl)) s19
        have g20 := get_eq (hD 8 20 (by decide) (by kernel_rfl)) s20
        have g21 := get_eq (hD 9 21 (by decide) (by kernel_rfl)) s21
        have g0 := hF 0 (free_of (by kernel_rfl))
        have g1 := hF 1 (free_of (by kernel_rfl))
        have g2 := hF 2 (free_of (by kernel_rfl))
        have g3 := hF 3 (free_of (by kernel_rfl))
        have g4 := hF 4 (free_of (by kernel_rfl))
        have g5 := hF 5 (free_of (by kernel_rfl))
        have g6 := hF 6 (free_of (by kernel_rfl))
        have g7 := hF 7 (free_of (by kernel_rfl))
        have g8 := hF 8 (free_of (by kernel_rfl))
        have g9 := hF 9 (free_of (by kernel_rfl))
        have g10 := hF 10 (free_of (by kernel_rfl))
        have g11 := hF 11 (free_of (by kernel_rfl))
        clear hF hD
        obtain ⟨x0, x1, x2, x3, x4, x5, x6, x7, x8, x9, x10, x11, x12, x13, x14, x15, x16, x17, x18, x19, x20, x21, x22, x23, x24, rfl⟩ : ∃ x0 x1 x2 x3 x4 x5 x6 x7 x8 x9 x10 x11 x12 x13 x14 x15 x16 x17 x18 x19 x20 x21 x22 x23 x24, T = #[x0, x1, x2, x3, x4, x5, x6, x7, x8, x9, x10, x11, x12, x13, x14, x15, x16, x17, x18, x19, x20, x21, x22, x23, x24] := by
          obtain ⟨Tl⟩ := T
          match Tl, hs with
          | [x0, x1, x2, x3, x4, x5, x6, x7, x8, x9, x10, x11, x12, x13, x14, x15, x16, x17, x18, x19, x20, x21, x22, x23, x24], _ => exact ⟨x0, x1, x2, x3, x4, x5, x6, x7, x8, x9, x10, x11, x12, x13, x14, x15, x16, x17, x18, x19, x20, x21, x22, x23, x24, rfl⟩
        have q0 : x0 = .func (.yield l) #[] #[] := Option.some.inj g0
        have q1 : x1 = .pointer (some ⟨Bs, 0, none⟩) := Option.some.inj g1
        have q2 : x2 = undef := Option.some.inj g2
        have q3 : x3 = .int .i64 (k : Int) := Option.some.inj g3
        have q4 : x4 = .pointer (some ⟨wr.heap.size, 0, none⟩) := Option.some.inj g4
        have q5 : x5 = .slice (some ⟨b, o, none⟩) ps.length cap := Option.some.inj g5
        have q6 : x6 = .int .i64 (ps.length : Int) := Option.some.inj g6
        have q7 : x7 = .int .i64 (k : Int) := Option.some.inj g7
        have q8 : x8 = .bool true := Option.some.inj g8
        have q9 : x9 = .int .i64 (k : Int) := Option.some.inj g9
        have q10 : x10 = .pointer (some ⟨b, o + k * 2, none⟩) := Option.some.inj g10
        have q11 : x11 = .agg #[.int .i64 a1, .int .i64 a2] := Option.some.inj g11
        have q12 : x12 = .func (.yield l) #[] #[] := Option.some.inj g12
        have q13 : x13 = .int .i64 (k : Int) := Option.some.inj g13
        have q14 : x14 = .agg #[.int .i64 a1, .int .i64 a2] := Option.some.inj g14
        have q15 : x15 = .slice (some ⟨b, o, none⟩) ps.length cap := Option.some.inj g15
        have q16 : x16 = .slice (some ⟨b, o, none⟩) ps.length cap := Option.some.inj g16
        have q17 : x17 = .int .i64 (k : Int) := Option.some.inj g17
        have q18 : x18 = .int .i64 (j : Int) := Option.some.inj g18
        have q19 : x19 = .pointer (some ⟨b, o + j * 2, none⟩) := Option.some.inj g19
        have q20 : x20 = .agg #[.int .i64 e1, .int .i64 e2] := Option.some.inj g20
        have q21 : x21 = .agg #[.int .i64 a1, .int .i64 a2, .int .i64 e1, .int .i64 e2] := Option.some.inj g21
        clear g0 g1 g2 g3 g4 g5 g6 g7 g8 g9 g10 g11 g12 g13 g14 g15 g16 g17 g18 g19 g20 g21
        subst q0 q1 q2 q3 q4 q5 q6 q7 q8 q9 q10 q11 q12 q13 q14 q15 q16 q17 q18 q19 q20 q21
        have hJ2 := hJ _ _ _ hJ1 hb
        have hB2 := HB.out.trans (hb.mono HB.out.size)
        have hbs2 := blk_call HBS.out hb
        clear hJ1 hb HBS HB f3 f4 f4a f4b fb s12 s13 s14 s15 s16 s17 s18 s19 s20 s21
        obtain ⟨fn, tmps, assign, body, hy, hR⟩ := hY _ ⟨k, hlt⟩ w2 hJ2 (by rw [upE_length]; exact hlt)
        have hE : encE ps ⟨k, hlt⟩ = #[.int .i64 (k : Int), .agg #[.int .i64 a1, .int .i64 a2, .int .i64 e1, .int .i64 e2]] := by
          unfold encE cx cy nx; dsimp only; rw [HJ.out, HA.out, HE.out]
        rw [hE] at hy
        clear hE
        show wpOpsIn _ _ _ _ _ [10, 11] _ _
        simp only [wpOpsIn]
        go_simp
        refine hR.mono ?_
        rintro e W3 (⟨rfl, hJ3, hk3⟩ | ⟨rfl, hJx3⟩)
        · go_simp
          gi_wp2
          go_roundw
          case rel => exact ⟨k + 1, by omega, by simp, by rw [upE_succ _ _ _ hlt]; exact hJ3, hB2.trans hk3.1, hk3.2.trans hbs2⟩
          case measure => simp [intOf]; omega
        · go_simp
          gi_wp2
          refine bodyPost_ret (results_none rfl _ _ _) rfl ?_
          exact ⟨⟨_, rfl⟩, .inr ⟨_, ⟨k + 1, by omega, (upE_succ _ _ _ hlt).symm⟩, hJx3⟩⟩
    · obtain rfl : k = ps.length := by omega
      gi_wp2
      go_end0
      exact ⟨⟨_, rfl⟩, .inl ⟨_, rfl, hJs⟩⟩

theorem grown_of_below {W W' : World} (h : Below W.heap.size W W') : W.grownBy W' none := ⟨h.os, h.tape, h.output, h.size, fun k hk _ => h.block k hk⟩
theorem below_of_grown {W W' : World} (h : W.grownBy W' none) : Below W.heap.size W W' := ⟨h.os, h.tape, h.output, h.size, fun k hk => h.block k hk (by simp)⟩
theorem edges_stops (n : Nat) (hn : 1 ≤ n) (Bs : Nat) (ao : Option Addr) (cap : Nat) (ps : List (Int × Int)) (w0 w : World) (h0 : 0 < ps.length) (hle : ps.length ≤ 1000000) (hP : PRow w0 ao ps) (hw : Below w0.heap.size w0 w) (hBs : w.heap[Bs]? = some (.cells #[.slice ao ps.length cap] 23 (0, 0))) :
    SeqStopsK Fence.wide n Tryd.prog 42 #[.pointer (some ⟨Bs, 0, none⟩)] (encE ps) (KpE w0.heap.size Bs) (fun ys => ys = upE ps.length h0 ps.length) (fun pre => ∃ k, k ≤ ps.length ∧ pre = upE ps.length h0 k) ps.length w := fun l J Jx W hW hJ _ hY hj0 =>
  edges1_in n hn l Bs ao cap ps w0 h0 hle hP J Jx (fun pre W1 W2 h hb => hJ pre W1 W2 none h (grown_of_below hb) (fun r e => by cases e)) hY W (hw.trans (hW.mono hw.size)) (blk_call hBs hW) hj0
theorem kpE_t {n₀ Bs : Nat} {A B C : World} (h : KpE n₀ Bs A B) (k : KpE n₀ Bs B C) : KpE n₀ Bs A C := ⟨h.1.trans k.1, k.2.trans h.2⟩
theorem kpE_b {n₀ Bs : Nat} {w : World} (hn : n₀ ≤ w.heap.size) (hB : Bs < w.heap.size) (W : World) (l : Nat) (o o' : Obj) (hl : w.heap.size ≤ l) (h : W.heap[l]? = some o) (hc : o.isCells = false) (hk : o.isWalk = false) : KpE n₀ Bs W (W.putObj l o') :=
  ⟨belowK_b hn W l o o' hl h hc hk, World.putObj_heap_other (by omega)⟩
end Go.Proofs.YthmcejeeohlafaaDoor
