/- Contracts of package intersect: edges and its iterator. Condition: the slice reads as the list says. -/
import Derived.Test.YtalhkcmlacppjaaDoorIxB
namespace Go.Proofs.YtalhkcmlacppjaaDoor
open Go.ChangeShapes Go.WideShapes Go.ChangeAt Go.RowKit
attribute [local go_sem] Oper.semAt_some
set_option linter.unusedVariables false
set_option linter.unusedSimpArgs false

theorem iedges_is (ao : Option Addr) (n cap : Nat) (w : World) :
    Calls Tryd.prog 81 #[.slice ao n cap] w fun e w' => e = .returned (.func (.func 91) #[] #[.pointer (some ⟨w.heap.size, 0, none⟩)]) ∧ w' = w.alloc (.cells #[.slice ao n cap] 34) := by
  go_enter Tryd.func81, Tryd.ntmps81
  go_wp2
  go_ret
  exact ⟨rfl, rfl⟩

set_option maxRecDepth 100000 in
set_option maxHeartbeats 4000000 in
theorem iedges1_in (n : Nat) (hn : 1 ≤ n) (l Bs : Nat) (ao : Option Addr) (cap : Nat) (ps : List (Int × Int)) (w0 : World) (h0 : 0 < ps.length) (hle : ps.length ≤ 1000000) (hP : PRow w0 ao ps) (J Jx : List {i : Nat // i < ps.length} → World → Prop)
    (hJ : ∀ pre W W', J pre W → Below W.heap.size W W' → J pre W')
    (hY : ∀ pre x W, J pre W → pre.length < ps.length → YieldAt Fence.wide (n - 1) Tryd.prog l (encE ps x) W fun e W' =>
      (e = .returned (.bool true) ∧ J (pre ++ [x]) W' ∧ KpE w0.heap.size Bs W W') ∨ (e = .returned (.bool false) ∧ Jx (pre ++ [x]) W'))
    (W : World) (hW : Below w0.heap.size w0 W) (hBs : W.heap[Bs]? = some (.cells #[.slice ao ps.length cap] 34 (0, 0))) (hJ0 : J [] W) :
    CallsIn Fence.wide n Tryd.prog 91 #[.func (.yield l) #[] #[], .pointer (some ⟨Bs, 0, none⟩)] W fun e W' => (∃ v, e = .returned v) ∧
      ((∃ ys, ys = upE ps.length h0 ps.length ∧ J ys W') ∨ (∃ pre, (∃ k, k ≤ ps.length ∧ pre = upE ps.length h0 k) ∧ Jx pre W')) := by
  have cB := blk_cell hBs 0 _ rfl
  refine callsIn_of_wp Tryd.func91 rfl trivial ?_ rfl
  simp only [Tryd.ntmps91, List.size_toArray, List.length_cons, List.length_nil, Nat.reduceAdd, Nat.reduceSub, Array.replicate_succ, Array.replicate_zero, List.push_toArray, List.append_toArray, List.nil_append, List.cons_append]
  gi_wp2
  gi_loopw [6] (fun i wr => ∃ k : Nat, k ≤ ps.length ∧ i = .int .i64 k ∧ J (upE ps.length h0 k) wr ∧ Below w0.heap.size w0 wr ∧ wr.heap[Bs]? = some (.cells #[.slice ao ps.length cap] 34 (0, 0)))
    (fun i _ => ps.length - (intOf i).toNat)
  case atStart => exact ⟨0, Nat.zero_le _, rfl, hJ0, hW, hBs⟩
  case round =>
    obtain ⟨k, hk, rfl, hJs, hB, hbs⟩ := hrel
    by_cases hlt : k < ps.length
    · have cb := blk_cell hbs 0 _ rfl
      have hPr : PRow wr ao ps := fun i hi => by
        obtain ⟨b, o, e, c1, c2⟩ := prow_at hP hi
        exact ⟨b, o, e, (hB.cell (World.block_lt_of_cell? w0 _ c1)).trans c1, (hB.cell (World.block_lt_of_cell? w0 _ c2)).trans c2⟩
      have hY' := fun w2 hJ2 => hY (upE ps.length h0 k) ⟨k, hlt⟩ w2 hJ2 (by rw [upE_length]; exact hlt)
      unfold encE at hY'
      dsimp only at hY'
      have hEA := edgeAt_is ao ps.length cap k (k : Int) ps wr rfl rfl hlt hle hPr
      generalize cx ps k = a1 at *
      generalize cy ps k = a2 at *
      generalize cx ps (nx ps.length k) = e1 at *
      generalize cy ps (nx ps.length k) = e2 at *
      gi_wp2_with (refine ⟨trivial, ?_⟩; gi_at_call 92; refine (callsIn_wide.2 hEA).mono ?_; rintro e w2 ⟨rfl, hb⟩; have hJ2 := hJ _ _ _ hJs hb; have HB2 := Lib.hid (hB.trans (hb.mono hB.size)); have HBS := Lib.hid (blk_call hbs hb); obtain ⟨fn, tmps, assign, body, hy, hR⟩ := hY' w2 hJ2; clear hEA hPr cb hbs hJs hJ2 hb hB hP hW hBs cB)
      refine hR.mono ?_
      rintro e W3 (⟨rfl, hJ3, hk3⟩ | ⟨rfl, hJx3⟩)
      · gi_wp2
        go_roundw
        case rel => exact ⟨k + 1, by omega, by simp, by rw [upE_succ _ _ _ hlt]; exact hJ3, HB2.out.trans hk3.1, hk3.2.trans HBS.out⟩
        case measure => simp [intOf]; omega
      · gi_wp2
        refine bodyPost_ret (results_none rfl _ _ _) rfl ?_
        exact ⟨⟨_, rfl⟩, .inr ⟨_, ⟨k + 1, by omega, (upE_succ _ _ _ hlt).symm⟩, hJx3⟩⟩
    · obtain rfl : k = ps.length := by omega
      gi_wp2
      go_end0
      exact ⟨⟨_, rfl⟩, .inl ⟨_, rfl, hJs⟩⟩
theorem iedges_stops (n : Nat) (hn : 1 ≤ n) (Bs : Nat) (ao : Option Addr) (cap : Nat) (ps : List (Int × Int)) (w0 w : World) (h0 : 0 < ps.length) (hle : ps.length ≤ 1000000) (hP : PRow w0 ao ps) (hw : Below w0.heap.size w0 w) (hBs : w.heap[Bs]? = some (.cells #[.slice ao ps.length cap] 34 (0, 0))) :
    SeqStopsK Fence.wide n Tryd.prog 91 #[.pointer (some ⟨Bs, 0, none⟩)] (encE ps) (KpE w0.heap.size Bs) (fun ys => ys = upE ps.length h0 ps.length) (fun pre => ∃ k, k ≤ ps.length ∧ pre = upE ps.length h0 k) ps.length w := fun l J Jx W hW hJ _ hY hj0 =>
  iedges1_in n hn l Bs ao cap ps w0 h0 hle hP J Jx (fun pre W1 W2 h hb => hJ pre W1 W2 none h (grown_of_below hb) (fun r e => by cases e)) hY W (hw.trans (hW.mono hw.size)) (blk_call hBs hW) hj0
end Go.Proofs.YtalhkcmlacppjaaDoor
