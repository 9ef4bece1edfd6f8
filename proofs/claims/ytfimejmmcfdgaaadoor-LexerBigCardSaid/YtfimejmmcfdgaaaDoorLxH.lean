/- Contracts of the reference of layer 10: Same, Void, Noted; of the laws: few. Equality of tokens. -/
import Derived.Test.YtfimejmmcfdgaaaDoorLxG
import Derived.BigRegion
namespace Go.Proofs.YtfimejmmcfdgaaaDoor
open Go.ChangeShapes Go.WideShapes Go.ChangeAt Go.RowKit
set_option linter.unusedVariables false
set_option linter.unusedSimpArgs false
set_option maxRecDepth 100000
theorem below_drewN {B : Nat} {a w : World} (h : Below B a w) (n : Nat) : Below B a (w.drewN n) := h.trans ⟨rfl, rfl, rfl, by simp, fun _ _ => by simp⟩
theorem bsA_inj {t u : Bs} : bsA t = bsA u ↔ t = u := ⟨fun h => by rw [← bl_bsA t, h, bl_bsA], fun h => by rw [h]⟩
theorem eqG_int (d : Nat) (a b : Int) (w : World) : (Op.equalIn (d + 1) 3 (.int .i64 a) (.int .i64 b)).run Tryd.prog w = .ok (decide (a = b)) w := by
  simp [Op.equalIn, run_underlying Tryd.underlying3]
  by_cases h : a = b <;> simp [h]
theorem eqG_str (d : Nat) (t u : Bs) (w : World) : (Op.equalIn (d + 1) 9 (.string (bsA t)) (.string (bsA u))).run Tryd.prog w = .ok (decide (t = u)) w := by
  have e : ((bsA t).toList == (bsA u).toList) = decide (t = u) := by
    rw [ByteArray.toList_eq, ByteArray.toList_eq, show (bsA t).data.toList = t from bl_bsA t, show (bsA u).data.toList = u from bl_bsA u]
    by_cases h : t = u <;> simp [h]
  simp [Op.equalIn, run_underlying Tryd.underlying9]
  rw [beq_toListBytes]
  exact e
theorem eqG_tok (d : Nat) (k k' a a' : Nat) (t t' : Bs) (w : World) : (Op.equalIn (d + 2) 31 (.agg #[.int .i64 k, .string (bsA t), .int .i64 a]) (.agg #[.int .i64 k', .string (bsA t'), .int .i64 a'])).run Tryd.prog w = .ok (decide ((k, t, a) = (k', t', a'))) w := by
  unfold Op.equalIn
  by_cases h0 : k = k'
  · subst h0
    by_cases h1 : t = t'
    · subst h1
      simp [run_underlying Tryd.underlying31, part, Tryd.sizeOf3, Tryd.isAgg3, Tryd.sizeOf9, Tryd.isAgg9, eqG_int, eqG_str, List.range']
      by_cases h : a = a'
      · simp [h]
      · rw [if_neg (by omega)]; simp [h]
    · simp [run_underlying Tryd.underlying31, part, Tryd.sizeOf3, Tryd.isAgg3, Tryd.sizeOf9, Tryd.isAgg9, eqG_int, eqG_str, List.range', h1]
  · simp [run_underlying Tryd.underlying31, part, Tryd.sizeOf3, Tryd.isAgg3, Tryd.sizeOf9, Tryd.isAgg9, eqG_int, eqG_str, List.range', h0]
    exact fun h => absurd (by omega) h0
theorem neqTok (k k' a a' : Nat) (t t' : Bs) (r : Bool) (h : Hid (decide ((k, t, a) = (k', t', a')) = r)) (w : World) : (binOp .neq 31 (.agg #[.int .i64 k, .string (bsA t), .int .i64 a]) (.agg #[.int .i64 k', .string (bsA t'), .int .i64 a'])).run Tryd.prog w = .ok (.bool (!r)) w := by
  have h' := eqG_tok 9998 k k' a a' t t' w
  rw [h.out] at h'
  simp only [binOp, Op.equal, Sem.run_bind, Sem.run_pure]
  rw [show Op.maxDepth = 9998 + 2 from rfl, h']
  rfl
theorem eqlTok (k k' a a' : Nat) (t t' : Bs) (r : Bool) (h : Hid (decide ((k, t, a) = (k', t', a')) = r)) (w : World) : (binOp .eql 31 (.agg #[.int .i64 k, .string (bsA t), .int .i64 a]) (.agg #[.int .i64 k', .string (bsA t'), .int .i64 a'])).run Tryd.prog w = .ok (.bool r) w := by
  have h' := eqG_tok 9998 k k' a a' t t' w
  rw [h.out] at h'
  simp only [binOp, Op.equal, Sem.run_bind, Sem.run_pure]
  rw [show Op.maxDepth = 9998 + 2 from rfl, h']
  rfl
theorem drewN3 {w wr : World} {q : Nat} (h : wr = w.drewN q) (a : Addr) : wr.cell? a = w.cell? a := by rw [h]; rfl
def eqToT (l m : List Tok) (k : Nat) : Prop := ∀ i, i < k → l.getD i tok0 = m.getD i tok0
theorem eq_of_toT {l m : List Tok} (h : l.length = m.length) (he : eqToT l m l.length) : l = m := by
  refine List.ext_getElem h (fun i h1 h2 => ?_)
  have := he i h1
  rwa [List.getD_eq_getElem?_getD, List.getD_eq_getElem?_getD, List.getElem?_eq_getElem h1, List.getElem?_eq_getElem h2] at this
set_option maxHeartbeats 2000000 in
theorem sameT_is (ao bo : Option Addr) (n n' ca cb : Nat) (l m : List Tok) (t : Bool) (w : World) (hn : l.length = n) (hn' : m.length = n') (ht : Hid (decide (l = m) = t)) (hl : l.length ≤ 1000000) (hm : m.length ≤ 1000000) (hP : TRow w ao l) (hQ : TRow w bo m) :
    Calls Tryd.prog 14 #[.slice ao n ca, .slice bo n' cb] w fun e w' => e = .returned (.bool t) ∧ Below w.heap.size w w' := by
  subst hn hn'
  by_cases hlm : l.length = m.length
  · have hne : (((l.length : Int) != (m.length : Int))) = false := by rw [hlm]; simp
    go_enter Tryd.func14, Tryd.ntmps14
    go_wp2
    go_loopw [5] (fun i wr => ∃ k : Nat, k ≤ l.length ∧ i = .int .i64 k ∧ Hid (eqToT l m k) ∧ ∃ q, wr = w.drewN q) (fun i _ => l.length - (intOf i).toNat)
    case atStart => exact ⟨0, Nat.zero_le _, rfl, Lib.hid (fun i hi => by omega), 0, rfl⟩
    case round =>
      obtain ⟨k, hk, rfl, hE, q, hq⟩ := hrel
      by_cases hlt : k < l.length
      · obtain ⟨b, o, rfl, c1, c2, c3⟩ := hP k hlt
        obtain ⟨b', o', rfl, c4, c5, c6⟩ := hQ k (hlm ▸ hlt)
        have d1 := (drewN3 hq _).trans c1
        have d2 := (drewN3 hq _).trans c2
        have d3 := (drewN3 hq _).trans c3
        have d4 := (drewN3 hq _).trans c4
        have d5 := (drewN3 hq _).trans c5
        have d6 := (drewN3 hq _).trans c6
        have HQQ := Lib.hid hq
        have hki : (k : Int) < l.length := by omega
        have hki2 : (k : Int) < m.length := by omega
        clear c1 c2 c3 c4 c5 c6 hq hP hQ
        have HEK := Lib.hid (fun (h1 : l.getD k tok0 = m.getD k tok0) => (fun i hi => by
          by_cases e : i = k
          · subst e; exact h1
          · exact hE.out i (by omega) : eqToT l m (k + 1)))
        have HNE := Lib.hid (fun (h : ¬ (l.getD k tok0 = m.getD k tok0)) => (fun e => h (by rw [e]) : ¬ l = m))
        generalize l.getD k tok0 = ek at *
        generalize m.getD k tok0 = fk at *
        obtain ⟨x, y, z⟩ := ek
        obtain ⟨x', y', z'⟩ := fk
        obtain ⟨s, hs⟩ : ∃ s, decide ((x, y, z) = (x', y', z')) = s := ⟨_, rfl⟩
        have E := neqTok x x' z z' y y' s (Lib.hid hs)
        have HS := Lib.hid hs
        clear hs
        cases s
        · have HN := Lib.hid (HNE.out (of_decide_eq_false HS.out))
          go_upto_region 6 with fail
          go_region
          all_goals
            go_wp2
            go_ret
            exact ⟨ret_bool (by rw [← ht.out]; exact (decide_eq_false HN.out).symm), by rw [HQQ.out]; exact below_drewN (Below.refl _ _) (q + 1)⟩
        · have HN := Lib.hid (HEK.out (of_decide_eq_true HS.out))
          go_upto_region 6 with fail
          go_region
          all_goals
            go_wp2
            exact ⟨⟨k + 1, by omega, by go_num, HN, q + 1, by rw [HQQ.out]; rfl⟩, by simp [intOf]; omega⟩
      · have HE : Hid (decide (l = m) = true) := Lib.hid (decide_eq_true (eq_of_toT hlm (fun i hi => hE.out i (by omega))))
        have HQQ := Lib.hid hq
        clear hE hq
        go_wp2
        go_ret
        exact ⟨ret_bool (by rw [← ht.out]; exact HE.out.symm), by rw [HQQ.out]; exact below_drewN (Below.refl _ _) q⟩
  · have hne : (((l.length : Int) != (m.length : Int))) = true := by rw [bne_iff_ne]; omega
    have HE : Hid (decide (l = m) = false) := Lib.hid (decide_eq_false (fun e => hlm (by rw [e])))
    go_enter Tryd.func14, Tryd.ntmps14
    go_wp2
    go_ret
    exact ⟨ret_bool (by rw [← ht.out]; exact HE.out.symm), Below.refl _ _⟩
theorem void_is (s : ByteArray) (t : Bool) (w : World) (hs : s.size ≤ 30000) (ht : Hid (decide (gapL false (bl s) = []) = t)) :
    Calls Tryd.prog 15 #[.string s] w fun e w' => e = .returned (.bool t) ∧ w = w' := by
  obtain ⟨T, hT⟩ : ∃ T, gapL false ((bl s).drop 0) = T := ⟨_, rfl⟩
  have HS := suf_drop (Nat.zero_le _) hT
  obtain ⟨a, ha⟩ : ∃ a, s.size - T.length = a := ⟨_, rfl⟩
  have GC : ∀ w : World, Calls Tryd.prog 20 #[.string s, .int .i64 0] w fun e w' => e = .returned (.int .i64 a) ∧ w = w' := fun w => by rw [← ha]; exact gap_any s 0 T w hs (Nat.zero_le _) (Lib.hid hT)
  have hE : ((a : Int) == (s.size : Int)) = t := by
    rw [← ht.out, show gapL false (bl s) = T from hT]
    have hd := congrArg List.length HS.2.2
    rw [List.length_drop, bl_len, ha] at hd
    have h2 := HS.2.1
    rw [ha] at h2
    by_cases h : T = []
    · subst h
      simp at hd ⊢
      omega
    · have : T.length ≠ 0 := fun e => h (List.length_eq_zero_iff.1 e)
      simp [h]
      omega
  clear HS hT ha ht
  go_enter Tryd.func15, Tryd.ntmps15
  go_wp2_with (go_at_call 20; refine (GC _).mono ?_; rintro e' w' ⟨rfl, rfl⟩)
  go_ret
  exact ⟨rfl, rfl⟩
theorem noteL_take (s : ByteArray) (k : Nat) (h : k < s.size) : noteL false ((bl s).take (k + 1)) = if s[k] = 10 then false else if kd s[k] = 6 then true else noteL false ((bl s).take k) := by
  have h' : k < (bl s).length := by rw [bl_len]; exact h
  rw [List.take_add_one, List.getElem?_eq_getElem h', noteL_app]
  rfl
set_option maxHeartbeats 2000000 in
theorem noted_is (s : ByteArray) (w : World) (hs : s.size ≤ 30000) :
    Calls Tryd.prog 16 #[.string s] w fun e w' => e = .returned (.bool (noteL false (bl s))) ∧ w = w' := by
  go_enter Tryd.func16, Tryd.ntmps16
  go_wp2
  go_loop [4, 3] (fun i v => ∃ k : Nat, k ≤ s.size ∧ i = .int .i64 k ∧ v = .bool (noteL false ((bl s).take k))) (fun i _ => s.size - (intOf i).toNat)
  case atStart => exact ⟨0, Nat.zero_le _, rfl, rfl⟩
  case round =>
    obtain ⟨k, hk, rfl, rfl⟩ := hrel
    obtain ⟨v, hv⟩ : ∃ v, noteL false ((bl s).take k) = v := ⟨_, rfl⟩
    rw [hv]
    by_cases hlt : k < s.size
    rotate_left
    · have E : Hid (noteL false (bl s) = v) := Lib.hid (by rw [← hv, List.take_of_length_le (by rw [bl_len]; omega)])
      clear hv
      have hlt' : ¬ (k : Int) < s.size := by omega
      go_wp2
      go_ret
      exact ⟨ret_bool E.out.symm, rfl⟩
    · have N := noteL_take s k hlt
      rw [hv] at N
      have HN := Lib.hid N
      clear N hv
      have hb := UInt8.toNat_lt s[k]
      obtain ⟨q, hq⟩ : ∃ q, kdI s[k].toNat = q := ⟨_, rfl⟩
      have KC : ∀ w : World, Calls Tryd.prog 22 #[.int .u8 (s[k].toNat : Int)] w fun e w' => e = .returned (.int .i64 q) ∧ w = w' := fun w => by rw [← hq]; exact kind_any _ w (by omega) (by omega)
      have HQ : Hid ((kd s[k] : Int) = q) := Lib.hid (by rw [← hq, kdI_is])
      clear hq
      by_cases h10 : s[k] = 10
      · have h6 : (q == 6) = false := by have h := HQ.out; rw [h10, kd10] at h; rw [← h]; rfl
        have e10 : (((s[k].toNat : Nat) : Int) == 10) = true := by rw [h10]; rfl
        have E := Lib.hid (HN.out.trans (if_pos h10))
        clear h10
        go_wp2_with (go_at_call 22; refine (KC _).mono ?_; rintro e' w' ⟨rfl, rfl⟩)
        exact ⟨⟨k + 1, by omega, by go_num, by rw [E.out]⟩, by simp [intOf]; omega⟩
      · have e10 : (((s[k].toNat : Nat) : Int) == 10) = false := by
          have : s[k].toNat ≠ 10 := fun e => h10 (UInt8.toNat_inj.1 e)
          simp only [beq_eq_false_iff_ne, ne_eq]
          omega
        by_cases h6 : q = 6
        · have E := Lib.hid (HN.out.trans ((if_neg h10).trans (if_pos (by have := HQ.out; omega))))
          subst h6
          clear h10
          go_wp2_with (go_at_call 22; refine (KC _).mono ?_; rintro e' w' ⟨rfl, rfl⟩)
          exact ⟨⟨k + 1, by omega, by go_num, by rw [E.out]⟩, by simp [intOf]; omega⟩
        · have E := Lib.hid (HN.out.trans ((if_neg h10).trans (if_neg (by have := HQ.out; omega))))
          have h6' : (q == 6) = false := by simpa using h6
          clear h10
          go_wp2_with (go_at_call 22; refine (KC _).mono ?_; rintro e' w' ⟨rfl, rfl⟩)
          exact ⟨⟨k + 1, by omega, by go_num, by rw [E.out]⟩, by simp [intOf]; omega⟩
/-- At most the first 2000 bytes. -/
def fewB (s : ByteArray) : ByteArray := s.extract 0 (min s.size 2000)
theorem fewB_size (s : ByteArray) : (fewB s).size ≤ 2000 := by unfold fewB; rw [ByteArray.size_extract]; omega
theorem few_is (s : ByteArray) (w : World) (hs : s.size ≤ maxLen) :
    Calls Tryd.prog 11 #[.string s] w fun e w' => e = .returned (.string (fewB s)) ∧ w = w' := by
  unfold maxLen at hs
  by_cases h : s.size ≤ 2000
  · have h' : (s.size : Int) ≤ 2000 := by omega
    have hm := run_min2 (s.size : Int) 2000
    have e : mnI (s.size : Int) 2000 = s.size := by unfold mnI; rw [if_neg (by omega)]
    rw [e] at hm
    have F : Hid (fewB s = s) := Lib.hid (by unfold fewB; rw [Nat.min_eq_left h]; exact ext_bsA s 0 s.size (t := bl s) (by rw [List.drop_zero, Nat.sub_zero, ← bl_len, List.take_length]) |>.trans (bsA_bl s))
    clear e
    go_enter Tryd.func11, Tryd.ntmps11
    go_wp2
    go_ret
    exact ⟨by rw [F.out]; rfl, rfl⟩
  · have h' : (2000 : Int) < s.size := by omega
    have hm := run_min2 (s.size : Int) 2000
    have e : mnI (s.size : Int) 2000 = 2000 := by unfold mnI; rw [if_pos (by omega)]
    rw [e] at hm
    have F : Hid (fewB s = s.extract 0 2000) := Lib.hid (by unfold fewB; rw [Nat.min_eq_right (by omega)])
    clear e
    go_enter Tryd.func11, Tryd.ntmps11
    go_wp2
    go_ret
    exact ⟨by rw [F.out]; rfl, rfl⟩
end Go.Proofs.YtfimejmmcfdgaaaDoor
