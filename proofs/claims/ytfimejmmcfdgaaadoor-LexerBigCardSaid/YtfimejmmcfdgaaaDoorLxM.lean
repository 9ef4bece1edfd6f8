/- The examples of layer 10's chapter: head. -/
import Derived.Test.YtfimejmmcfdgaaaDoorLxL
namespace Go.Proofs.YtfimejmmcfdgaaaDoor
open Go.ChangeShapes Go.WideShapes Go.ChangeAt Go.RowKit
set_option linter.unusedVariables false
set_option linter.unusedSimpArgs false
set_option maxRecDepth 100000
theorem wrap_k (n : Int) (h : -1000000000 ≤ n ∧ n ≤ 1000000000) : IntKind.i64.wrap n = n := by rw [IntKind.wrap_i64]; omega
theorem rt_eqS' {sp : ToldS} {d : Nat} {w : World} {v x : Value} (hs : sp.getD d none = some (eqS x)) (h : v = x) : ∀ d', some d = some d' → RtS sp d' v w := by subst h; exact rt_eqS hs
theorem tail_one {F : Fence} {n0 : Nat} {P : Program} {ops : Array Oper} {Q : Exit → Act → World → Prop} {a : Act} {w : World} (hF : F.fn = fun _ => True) (hd : F.depth = none) (ha : F.alive = false) {i0 : Nat} {rest : List Nat} {o : Oper} (hio : ops[i0]? = some o) (hgd : o.guard = none) (hnd : ∀ c, o.op ≠ .defer c)
    (h : Oper.wp P o a w (fun a w => wpOpsIn F n0 P ops Q rest a w) Q) : wpOpsIn F n0 P ops Q (i0 :: rest) a w := by
  rw [wpOpsIn_cons]
  unfold wpOpIn
  simp only [hio]
  rw [if_pos (by simp [Region.wanted, hgd])]
  exact op_in hF hd ha hnd h
theorem lex_ok (s : ByteArray) (ts : List Tok) (w : World) (hTab : Tab w) (hs : s.size ≤ 20000) (h : Hid (Lexes 0 (bl s) ts none)) :
    Calls Tryd.prog 12 #[.string s] w fun e w' => (∃ ao cap, e = .returned (.tuple #[.slice ao ts.length cap, .int .i64 0, .int .i64 0]) ∧ ts.length ≤ cap ∧ cap ≤ maxLen ∧ TRow w' ao ts) ∧ Below w.heap.size w w' := lex_is s ts none w hTab hs h
theorem lex_err (s : ByteArray) (ts : List Tok) (p : Nat) (w : World) (hTab : Tab w) (hs : s.size ≤ 20000) (h : Hid (Lexes 0 (bl s) ts (some p))) :
    Calls Tryd.prog 12 #[.string s] w fun e w' => e = .returned (.tuple #[.slice none 0 0, .int .i64 100, .int .i64 p]) ∧ Below w.heap.size w w' := lex_is s ts (some p) w hTab hs h
def ts1 : List Tok := [(1, [103, 111], 0), (2, [49], 3), (3, [40], 4), (2, [45, 51], 5), (3, [41], 7), (3, [59], 8)]
def ts2 : List Tok := [(1, [97], 0)]
theorem ex1 : Lexes 0 (bl ⟨#[103, 111, 32, 49, 40, 45, 51, 41, 59]⟩) ts1 none := lexes_F (n := 10) (by decide +kernel) (by decide)
theorem ex2 : Lexes 0 (bl ⟨#[97, 32, 35, 32, 98]⟩) ts2 none := lexes_F (n := 6) (by decide +kernel) (by decide)
theorem ex3 : Lexes 0 (bl ⟨#[55, 120]⟩) [] (some 0) := lexes_F (n := 3) (by decide +kernel) (by decide)
theorem ex4 : Lexes 0 (bl ⟨#[119, 97, 105, 116, 32, 48, 48, 55, 59]⟩) [(1, [119, 97, 105, 116], 0)] (some 5) := lexes_F (n := 10) (by decide +kernel) (by decide)
set_option maxHeartbeats 4000000 in
theorem head10_is (w : World) (hTab : Tab w) :
    Calls Tryd.prog 10 #[] w fun e w' => e = .returned (.bool true) ∧ Below w.heap.size w w' := by
  have TB : Hid (∀ v, Below w.heap.size w v → Tab v) := Lib.hid fun v h => hTab.below h
  clear hTab
  have X1 := Lib.hid ex1
  have X2 := Lib.hid ex2
  have X3 := Lib.hid ex3
  have X4 := Lib.hid ex4
  have n1 : ts1.length = 6 := rfl
  have n2 : ts2.length = 1 := rfl
  have C1 := fun wv hwv => lex_ok _ ts1 wv (TB.out wv hwv) (by decide) X1
  have C2 := fun wv hwv => lex_ok _ ts2 wv (TB.out wv hwv) (by decide) X2
  have C3 := fun wv hwv => lex_err _ _ _ wv (TB.out wv hwv) (by decide) X3
  have C4 := fun wv hwv => lex_err _ _ _ wv (TB.out wv hwv) (by decide) X4
  rw [n1] at C1
  rw [n2] at C2
  clear n1 n2
  go_enter Tryd.func10, Tryd.ntmps10
  go_wp2_with (go_at_call 12; first | (with_reducible refine (C1 _ (Below.refl _ _)).mono ?_; rintro e' W1 ⟨⟨ao, ca, rfl, -, -, hr⟩, hb⟩; have R1 := Lib.hid hr; have B1 := Lib.hid hb; clear hr hb) | (with_reducible refine (C2 _ B1.out).mono ?_; rintro e' W2 ⟨⟨bo, cb, rfl, -, -, hr⟩, hb⟩; have R2 := Lib.hid hr; have R1' := Lib.hid (trow_below R1.out hb); have B2 := Lib.hid (belT B1.out hb); clear hr hb) | (with_reducible refine (C3 _ B2.out).mono ?_; rintro e' W3 ⟨rfl, hb⟩; have R13 := Lib.hid (trow_below R1'.out hb); have R23 := Lib.hid (trow_below R2.out hb); have B3 := Lib.hid (belT B2.out hb); clear hb) | (with_reducible refine (C4 _ B3.out).mono ?_; rintro e' W4 ⟨rfl, hb⟩; have R14 := Lib.hid (trow_below R13.out hb); have R24 := Lib.hid (trow_below R23.out hb); have B4 := Lib.hid (belT B3.out hb); clear hb; refine Hid.out ?_))
  refine Lib.hid ?_
  obtain ⟨b, o, rfl, k0, t0, a0⟩ := R14.out 0 (by decide)
  obtain ⟨b1, o1, e1, k1, t1, a1⟩ := R14.out 1 (by decide)
  cases e1
  obtain ⟨b2, o2, e2, k2, t2, a2⟩ := R14.out 2 (by decide)
  cases e2
  obtain ⟨b3, o3, e3, k3, t3, a3⟩ := R14.out 3 (by decide)
  cases e3
  obtain ⟨b5, o5, e5, k5, t5, a5⟩ := R14.out 5 (by decide)
  cases e5
  obtain ⟨b', o', rfl, m0, m1, m2⟩ := R24.out 0 (by decide)
  replace k0 : W4.cell? ⟨b, o, none⟩ = some (.int .i64 1) := k0
  replace t0 : W4.cell? ⟨b, o + 1, none⟩ = some (.string ⟨#[103, 111]⟩) := t0
  replace a0 : W4.cell? ⟨b, o + 2, none⟩ = some (.int .i64 0) := a0
  replace k1 : W4.cell? ⟨b, o + 3, none⟩ = some (.int .i64 2) := k1
  replace t1 : W4.cell? ⟨b, o + 4, none⟩ = some (.string ⟨#[49]⟩) := t1
  replace a1 : W4.cell? ⟨b, o + 5, none⟩ = some (.int .i64 3) := a1
  replace k2 : W4.cell? ⟨b, o + 6, none⟩ = some (.int .i64 3) := k2
  replace t2 : W4.cell? ⟨b, o + 7, none⟩ = some (.string ⟨#[40]⟩) := t2
  replace a2 : W4.cell? ⟨b, o + 8, none⟩ = some (.int .i64 4) := a2
  replace k3 : W4.cell? ⟨b, o + 9, none⟩ = some (.int .i64 2) := k3
  replace t3 : W4.cell? ⟨b, o + 10, none⟩ = some (.string ⟨#[45, 51]⟩) := t3
  replace a3 : W4.cell? ⟨b, o + 11, none⟩ = some (.int .i64 5) := a3
  replace k5 : W4.cell? ⟨b, o + 15, none⟩ = some (.int .i64 3) := k5
  replace t5 : W4.cell? ⟨b, o + 16, none⟩ = some (.string ⟨#[59]⟩) := t5
  replace a5 : W4.cell? ⟨b, o + 17, none⟩ = some (.int .i64 8) := a5
  replace m1 : W4.cell? ⟨b', o' + 1, none⟩ = some (.string ⟨#[97]⟩) := m1
  have E0 : ∀ w : World, (binOp .eql 31 (.agg #[.int .i64 1, .string ⟨#[103, 111]⟩, .int .i64 0]) (.agg #[.int .i64 1, .string ⟨#[103, 111]⟩, .int .i64 0])).run Tryd.prog w = .ok (.bool true) w := fun w => eqlTok 1 1 0 0 [103, 111] [103, 111] true (Lib.hid (by decide)) w
  have E1 : ∀ w : World, (binOp .eql 31 (.agg #[.int .i64 2, .string ⟨#[49]⟩, .int .i64 3]) (.agg #[.int .i64 2, .string ⟨#[49]⟩, .int .i64 3])).run Tryd.prog w = .ok (.bool true) w := fun w => eqlTok 2 2 3 3 [49] [49] true (Lib.hid (by decide)) w
  have E2 : ∀ w : World, (binOp .eql 31 (.agg #[.int .i64 3, .string ⟨#[40]⟩, .int .i64 4]) (.agg #[.int .i64 3, .string ⟨#[40]⟩, .int .i64 4])).run Tryd.prog w = .ok (.bool true) w := fun w => eqlTok 3 3 4 4 [40] [40] true (Lib.hid (by decide)) w
  have E3 : ∀ w : World, (binOp .eql 31 (.agg #[.int .i64 2, .string ⟨#[45, 51]⟩, .int .i64 5]) (.agg #[.int .i64 2, .string ⟨#[45, 51]⟩, .int .i64 5])).run Tryd.prog w = .ok (.bool true) w := fun w => eqlTok 2 2 5 5 [45, 51] [45, 51] true (Lib.hid (by decide)) w
  go_wp2
  go_ret
  exact ⟨rfl, B4.out⟩
end Go.Proofs.YtfimejmmcfdgaaaDoor
