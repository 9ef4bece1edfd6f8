/- Contracts of the reference of layer 10: run, number. Condition: the text has at most 30000 bytes. -/
import Derived.Test.YtfimejmmcfdgaaaDoorLxC
import Derived.Lib.IndexBytes
import Derived.Laws.Strings
namespace Go.Proofs.YtfimejmmcfdgaaaDoor
open Go.ChangeShapes Go.WideShapes Go.ChangeAt Go.RowKit
set_option linter.unusedVariables false
set_option linter.unusedSimpArgs false
set_option maxRecDepth 100000
theorem drop_len {s : ByteArray} {k : Nat} {T : Bs} (h : (bl s).drop k = T) (hk : k ≤ s.size) : s.size - T.length = k := by
  rw [← h, List.length_drop, bl_len]
  omega
set_option maxHeartbeats 4000000 in
theorem runW_any (s : ByteArray) (a : Nat) (T : Bs) (w : World) (hs : s.size ≤ 30000) (ha : a ≤ s.size) (hT : Hid (((bl s).drop a).dropWhile isW = T)) :
    Calls Tryd.prog 27 #[.string s, .int .i64 a, .int .i64 3] w fun e w' => e = .returned (.int .i64 (s.size - T.length : Nat)) ∧ w = w' := by
  go_enter Tryd.func27, Tryd.ntmps27
  go_wp2
  go_loop [1] (fun i => ∃ k : Nat, k ≤ s.size ∧ i = .int .i64 k ∧ Hid (((bl s).drop k).dropWhile isW = T)) (fun i => s.size - (intOf i).toNat)
  case atStart => exact ⟨a, ha, rfl, hT⟩
  case round =>
    clear hT
    obtain ⟨k, hk, rfl, hT⟩ := hrel
    by_cases hlt : k < s.size
    rotate_left
    · have hlt' : ¬ (k : Int) < s.size := by omega
      have E : Hid (s.size - T.length = k) := Lib.hid (by
        have : k = s.size := by omega
        subst this
        have := hT.out
        rw [bl_end] at this
        rw [← this]
        rfl)
      go_wp2
      go_ret
      exact ⟨ret_int (by rw [E.out]), rfl⟩
    · have D := Lib.hid (bl_drop s k hlt)
      have hb := UInt8.toNat_lt s[k]
      obtain ⟨q, hq⟩ : ∃ q, kdI s[k].toNat = q := ⟨_, rfl⟩
      have KC : ∀ w : World, Calls Tryd.prog 22 #[.int .u8 (s[k].toNat : Int)] w fun e w' => e = .returned (.int .i64 q) ∧ w = w' := fun w => by rw [← hq]; exact kind_any _ w (by omega) (by omega)
      have HQ : Hid ((kd s[k] : Int) = q) := Lib.hid (by rw [← hq, kdI_is])
      clear hq
      by_cases hp : isW s[k] = true
      · have HN : Hid (((bl s).drop (k + 1)).dropWhile isW = T) := Lib.hid (by
          have := hT.out
          rw [D.out, List.dropWhile_cons] at this
          rwa [if_pos hp] at this)
        have hq : q = 1 ∨ q = 2 ∨ q = 3 := by have h1 := HQ.out; have := isW_kd hp; omega
        clear hp
        rcases hq with rfl | rfl | rfl
        all_goals
          go_wp2_with (go_at_call 22; refine (KC _).mono ?_; rintro e w' ⟨rfl, rfl⟩)
          exact ⟨⟨k + 1, by omega, by go_num, HN⟩, by simp [intOf]; omega⟩
      · have hq : q ≠ 1 ∧ q ≠ 2 ∧ q ≠ 3 := by
          have h1 := HQ.out
          simp [isW] at hp
          omega
        have q2 : (q != 2) = true := by simp; omega
        have q1 : (q != 1) = true := by simp; omega
        have q3 : (q != 3) = true := by simp; omega
        have E : Hid (s.size - T.length = k) := Lib.hid (drop_len (by
          have := hT.out
          rw [D.out, List.dropWhile_cons, if_neg hp, ← D.out] at this
          exact this) hk)
        clear hp hq
        go_wp2_with (go_at_call 22; refine (KC _).mono ?_; rintro e w' ⟨rfl, rfl⟩)
        go_ret
        exact ⟨ret_int (by rw [E.out]), rfl⟩
set_option maxHeartbeats 4000000 in
theorem runD_any (s : ByteArray) (a : Nat) (T : Bs) (w : World) (hs : s.size ≤ 30000) (ha : a ≤ s.size) (hT : Hid (((bl s).drop a).dropWhile isD = T)) :
    Calls Tryd.prog 27 #[.string s, .int .i64 a, .int .i64 2] w fun e w' => e = .returned (.int .i64 (s.size - T.length : Nat)) ∧ w = w' := by
  go_enter Tryd.func27, Tryd.ntmps27
  go_wp2
  go_loop [1] (fun i => ∃ k : Nat, k ≤ s.size ∧ i = .int .i64 k ∧ Hid (((bl s).drop k).dropWhile isD = T)) (fun i => s.size - (intOf i).toNat)
  case atStart => exact ⟨a, ha, rfl, hT⟩
  case round =>
    clear hT
    obtain ⟨k, hk, rfl, hT⟩ := hrel
    by_cases hlt : k < s.size
    rotate_left
    · have hlt' : ¬ (k : Int) < s.size := by omega
      have E : Hid (s.size - T.length = k) := Lib.hid (by
        have : k = s.size := by omega
        subst this
        have := hT.out
        rw [bl_end] at this
        rw [← this]
        rfl)
      go_wp2
      go_ret
      exact ⟨ret_int (by rw [E.out]), rfl⟩
    · have D := Lib.hid (bl_drop s k hlt)
      have hb := UInt8.toNat_lt s[k]
      obtain ⟨q, hq⟩ : ∃ q, kdI s[k].toNat = q := ⟨_, rfl⟩
      have KC : ∀ w : World, Calls Tryd.prog 22 #[.int .u8 (s[k].toNat : Int)] w fun e w' => e = .returned (.int .i64 q) ∧ w = w' := fun w => by rw [← hq]; exact kind_any _ w (by omega) (by omega)
      have HQ : Hid ((kd s[k] : Int) = q) := Lib.hid (by rw [← hq, kdI_is])
      clear hq
      by_cases hp : isD s[k] = true
      · have HN : Hid (((bl s).drop (k + 1)).dropWhile isD = T) := Lib.hid (by
          have := hT.out
          rw [D.out, List.dropWhile_cons] at this
          rwa [if_pos hp] at this)
        have hq : q = 2 := by have h1 := HQ.out; have := isD_kd hp; omega
        clear hp
        subst hq
        all_goals
          go_wp2_with (go_at_call 22; refine (KC _).mono ?_; rintro e w' ⟨rfl, rfl⟩)
          exact ⟨⟨k + 1, by omega, by go_num, HN⟩, by simp [intOf]; omega⟩
      · have hq : q ≠ 2 := by
          have h1 := HQ.out
          simp [isD] at hp
          omega
        have q2 : (q != 2) = true := by simp; omega

        have E : Hid (s.size - T.length = k) := Lib.hid (drop_len (by
          have := hT.out
          rw [D.out, List.dropWhile_cons, if_neg hp, ← D.out] at this
          exact this) hk)
        clear hp hq
        go_wp2_with (go_at_call 22; refine (KC _).mono ?_; rintro e w' ⟨rfl, rfl⟩)
        go_ret
        exact ⟨ret_int (by rw [E.out]), rfl⟩
theorem numL_45 (l : Bs) : numL (45 :: l) = (decide (1 ≤ l.length) && decide (l.length ≤ 9) && decide (l.head? ≠ some 48)) := by
  rw [numL_minus]
  congr 1
  rw [show decide ((45 : UInt8) :: l = [48]) = false from decide_eq_false (fun h => by cases h), Bool.or_false]
theorem numL_ne {c : UInt8} (l : Bs) (h : c ≠ 45) : numL (c :: l) = (decide (l.length + 1 ≤ 9) && (decide (c ≠ 48) || decide (c :: l = [48]))) := by
  unfold numL
  simp [h]
theorem bl_cons (s : ByteArray) (h : 0 < s.size) : bl s = s[0] :: (bl s).drop 1 := by
  have := bl_drop s 0 h
  rwa [List.drop_zero] at this
theorem bl_ext (s : ByteArray) (a : Nat) : bl (s.extract a s.size) = (bl s).drop a := Lib.extract_to_end s a
set_option maxHeartbeats 4000000 in
theorem number_any (s : ByteArray) (w : World) (hs : s.size ≤ 30000) (h1 : 0 < s.size) :
    Calls Tryd.prog 28 #[.string s] w fun e w' => e = .returned (.bool (numL (bl s))) ∧ w = w' := by
  have C := Lib.hid (bl_cons s h1)
  have hl : Hid (((bl s).drop 1).length = s.size - 1) := Lib.hid (by rw [List.length_drop, bl_len])
  by_cases h45 : s[0] = 45
  · have e45 : ((s[0].toNat : Int) == 45) = true := by rw [h45]; rfl
    have H := Lib.hid h45
    clear h45
    by_cases hlo : s.size - 1 < 1
    · have hlo' : ((s.size - 1 : Nat) : Int) < 1 := by omega
      go_enter Tryd.func28, Tryd.ntmps28
      go_wp2
      go_ret
      exact ⟨ret_bool (by rw [C.out, H.out, numL_45, hl.out, decide_eq_false (show ¬ 1 ≤ s.size - 1 by omega)]; rfl), rfl⟩
    have hlo' : (1 : Int) ≤ (s.size - 1 : Nat) := by omega
    by_cases hhi : 9 < s.size - 1
    · have hhi' : (9 : Int) < (s.size - 1 : Nat) := by omega
      go_enter Tryd.func28, Tryd.ntmps28
      go_wp2
      go_ret
      exact ⟨ret_bool (by rw [C.out, H.out, numL_45, hl.out, decide_eq_false (show ¬ s.size - 1 ≤ 9 by omega), Bool.and_false]; rfl), rfl⟩
    have hhi' : ((s.size - 1 : Nat) : Int) ≤ 9 := by omega
    have hx : 0 < (s.extract 1 s.size).size := by rw [ByteArray.size_extract]; omega
    have HH : Hid (((bl s).drop 1).head? = some (s.extract 1 s.size)[0]) := Lib.hid (by rw [← bl_ext, bl_cons _ hx]; rfl)
    by_cases h48 : (s.extract 1 s.size)[0] = 48
    · have e48 : (((s.extract 1 s.size)[0].toNat : Int) != 48) = false := by rw [h48]; rfl
      have el : (s.toList == [48]) = false := by
        have h := C.out
        rw [H.out] at h
        rw [ByteArray.toList_eq, show s.data.toList = bl s from rfl, h]
        rfl
      have H48 := Lib.hid h48
      clear h48
      go_enter Tryd.func28, Tryd.ntmps28
      go_wp2
      go_ret
      exact ⟨ret_bool (by rw [C.out, H.out, numL_45, HH.out, H48.out, decide_eq_false (show ¬ some (48 : UInt8) ≠ some 48 by simp), Bool.and_false]), rfl⟩
    · have e48 : (((s.extract 1 s.size)[0].toNat : Int) != 48) = true := by
        have : (s.extract 1 s.size)[0].toNat ≠ 48 := fun e => h48 (UInt8.toNat_inj.1 e)
        simp only [bne_iff_ne, ne_eq]
        omega
      have H48 := Lib.hid h48
      clear h48
      go_enter Tryd.func28, Tryd.ntmps28
      go_wp2
      go_ret
      exact ⟨ret_bool (by rw [C.out, H.out, numL_45, HH.out, hl.out, decide_eq_true (show 1 ≤ s.size - 1 by omega), decide_eq_true (show s.size - 1 ≤ 9 by omega), decide_eq_true (show some (s.extract 1 s.size)[0] ≠ some 48 by simpa using H48.out)]; rfl), rfl⟩
  · have e45 : ((s[0].toNat : Int) == 45) = false := by
      have : s[0].toNat ≠ 45 := fun e => h45 (UInt8.toNat_inj.1 e)
      simp only [beq_eq_false_iff_ne, ne_eq]
      omega
    have H := Lib.hid h45
    clear h45
    by_cases hhi : 9 < s.size
    · have hhi' : (9 : Int) < s.size := by omega
      go_enter Tryd.func28, Tryd.ntmps28
      go_wp2
      go_ret
      exact ⟨ret_bool (by rw [C.out, numL_ne _ H.out, hl.out, decide_eq_false (show ¬ s.size - 1 + 1 ≤ 9 by omega)]; rfl), rfl⟩
    have hhi' : (s.size : Int) ≤ 9 := by omega
    by_cases h48 : s[0] = 48
    · have e48 : ((s[0].toNat : Int) != 48) = false := by rw [h48]; rfl
      have H48 := Lib.hid h48
      have TL : Hid ((s.toList == [48]) = decide (s[0] :: (bl s).drop 1 = [48])) := Lib.hid (by
        rw [ByteArray.toList_eq, show s.data.toList = bl s from rfl, ← C.out]
        by_cases hd : bl s = [48]
        · rw [hd]; rfl
        · rw [decide_eq_false hd]
          simpa using hd)
      obtain ⟨tv, htv⟩ : ∃ tv, (s.toList == [48]) = tv := ⟨_, rfl⟩
      have HTV := Lib.hid (TL.out.symm.trans htv)
      clear h48 TL
      go_enter Tryd.func28, Tryd.ntmps28
      go_wp2
      go_ret
      exact ⟨ret_bool (by rw [C.out, numL_ne _ H.out, hl.out, decide_eq_true (show s.size - 1 + 1 ≤ 9 by omega), HTV.out, decide_eq_false (show ¬ s[0] ≠ 48 by simpa using H48.out)]; simp), rfl⟩
    · have e48 : ((s[0].toNat : Int) != 48) = true := by
        have : s[0].toNat ≠ 48 := fun e => h48 (UInt8.toNat_inj.1 e)
        simp only [bne_iff_ne, ne_eq]
        omega
      have H48 := Lib.hid h48
      clear h48
      go_enter Tryd.func28, Tryd.ntmps28
      go_wp2
      go_ret
      exact ⟨ret_bool (by rw [C.out, numL_ne _ H.out, hl.out, decide_eq_true (show s.size - 1 + 1 ≤ 9 by omega), decide_eq_true H48.out]; rfl), rfl⟩
end Go.Proofs.YtfimejmmcfdgaaaDoor
