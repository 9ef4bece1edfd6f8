/- Contracts of the landed lexer: TrimPrefix (of a minus), isNumber, measure. Conditions: the table of classes lies as the program's text lays it (Tab); the text has at most 30000 bytes. -/
import Derived.Test.YtfimejmmcfdgaaaDoorLxK
namespace Go.Proofs.YtfimejmmcfdgaaaDoor
open Go.ChangeShapes Go.WideShapes Go.ChangeAt Go.RowKit
set_option linter.unusedVariables false
set_option linter.unusedSimpArgs false
set_option maxRecDepth 100000
theorem bl_consx (s : ByteArray) (h : 0 < s.size) : bl s = s[0] :: (bl s).drop 1 := by simpa using bl_drop s 0 h
theorem ext01 (s : ByteArray) (h : 0 < s.size) : (s.extract 0 1).toList = [s[0]] := by
  rw [ByteArray.toList_eq, show (s.extract 0 1).data.toList = bl (s.extract 0 1) from rfl, bl_sub, List.drop_zero, bl_consx s h]
  rfl
set_option maxHeartbeats 4000000 in
theorem hasp_any (s : ByteArray) (w : World) (hs : s.size ≤ 30000) (h1 : 0 < s.size) (q : Bool) (hq : Hid ((s[0] == 45) = q)) :
    Calls Tryd.prog 30 #[.string s, .string ⟨#[45]⟩] w fun e w' => e = .returned (.bool q) ∧ w = w' := by
  have E : ((s.extract 0 1).toList == [45]) = q := by rw [ext01 s h1]; simpa using hq.out
  have h1' : (1 : Int) ≤ s.size := by omega
  go_enter Tryd.func30, Tryd.ntmps30
  go_wp2
  go_ret
  exact ⟨rfl, rfl⟩
/-- The text without its minus. -/
def dig (s : ByteArray) : ByteArray := if (bl s).head? = some 45 then s.extract 1 s.size else s
theorem dig_bl (s : ByteArray) : bl (dig s) = if (bl s).head? = some 45 then (bl s).tail else bl s := by
  unfold dig
  split
  · rw [bl_sub, List.take_of_length_le (by rw [List.length_drop, bl_len]; omega), List.drop_one]
  · rfl
theorem dig_size (s : ByteArray) : (dig s).size ≤ s.size := by
  unfold dig
  split
  · rw [ByteArray.size_extract]; omega
  · omega

set_option maxHeartbeats 4000000 in
theorem trim0_any (s : ByteArray) (w : World) (hs : s.size ≤ 30000) (h1 : 0 < s.size) :
    Calls Tryd.prog 29 #[.string s, .string ⟨#[45]⟩] w fun e w' => e = .returned (.string (dig s)) ∧ w = w' := by
  have h1' : (1 : Int) ≤ s.size := by omega
  have hh : (bl s).head? = some s[0] := by rw [bl_consx s h1]; rfl
  obtain ⟨q, hq⟩ : ∃ q, (s[0] == 45) = q := ⟨_, rfl⟩
  have HC := fun w => hasp_any s w hs h1 q (Lib.hid hq)
  cases q with
  | true =>
    have E : Hid (s.extract 1 s.size = dig s) := Lib.hid (by unfold dig; rw [if_pos (by rw [hh]; simpa using hq)])
    clear hq hh
    go_enter Tryd.func29, Tryd.ntmps29
    go_wp2_with (go_at_call 30; refine (HC _).mono ?_; rintro e w' ⟨rfl, rfl⟩)
    go_ret
    exact ⟨by rw [E.out]; rfl, rfl⟩
  | false =>
    have E : Hid (s = dig s) := Lib.hid (by unfold dig; rw [if_neg (by rw [hh]; simpa using hq)])
    clear hq hh
    go_enter Tryd.func29, Tryd.ntmps29
    go_wp2_with (go_at_call 30; refine (HC _).mono ?_; rintro e w' ⟨rfl, rfl⟩)
    go_ret
    exact ⟨by first | rfl | exact congrArg (fun x => Ending.returned (.string x)) E.out, rfl⟩

set_option maxHeartbeats 4000000 in
theorem trim_any (s : ByteArray) (w : World) (hs : s.size ≤ 30000) (h1 : 0 < s.size) :
    Calls Tryd.prog 26 #[.string s, .string ⟨#[45]⟩] w fun e w' => e = .returned (.string (dig s)) ∧ w = w' := by
  have HC := fun w => trim0_any s w hs h1
  generalize dig s = d at *
  go_enter Tryd.func26, Tryd.ntmps26
  go_wp2_with (go_at_call 29; refine (HC _).mono ?_; rintro e w' ⟨rfl, rfl⟩)
  go_ret
  exact ⟨rfl, rfl⟩

theorem numL_dig (s : ByteArray) : numL (bl s) = (decide (1 ≤ (dig s).size) && decide ((dig s).size ≤ 9) && (decide ((bl (dig s)).head? ≠ some 48) || decide (bl s = [48]))) := by
  rw [← bl_len (dig s)]
  unfold numL
  rw [dig_bl]
theorem bare_isA (r : ByteArray) (h : 0 < r.size) : bare (bl r) = !isA r[0] := by
  rw [bl_consx r h]
  simp [bare, isA, bne]
theorem str_ne (d : ByteArray) (h : 0 < d.size) : (d.toList == []) = false := by
  rw [ByteArray.toList_eq, show d.data.toList = bl d from rfl, bl_consx d h]
  rfl
theorem str_eq (d : ByteArray) (h : d.size = 0) : (d.toList == []) = true := by
  have : bl d = [] := List.length_eq_zero_iff.1 (by rw [bl_len]; exact h)
  rw [ByteArray.toList_eq, show d.data.toList = bl d from rfl, this]
  rfl

set_option maxHeartbeats 4000000 in
theorem isnum_none (s r : ByteArray) (w : World) (hTab : Tab w) (hs : s.size ≤ 30000) (h1 : 0 < s.size) (hd : (dig s).size = 0) :
    Calls Tryd.prog 19 #[.string s, .string r] w fun e w' => e = .returned (.bool (numL (bl s) && bare (bl r))) ∧ w = w' := by
  have TC := fun w => trim_any s w hs h1
  have HN := Lib.hid (numL_dig s)
  have hds := dig_size s
  generalize dig s = d at *
  have de := str_eq d hd
  have E : Hid (numL (bl s) = false) := Lib.hid (by rw [HN.out, hd]; rfl)
  go_enter Tryd.func19, Tryd.ntmps19
  go_wp2_with (first | (go_at_call 26; refine (TC _).mono ?_; rintro e w' ⟨rfl, rfl⟩))
  go_ret
  exact ⟨ret_bool (by rw [E.out]; rfl), rfl⟩

set_option maxHeartbeats 4000000 in
theorem isnum_long (s r : ByteArray) (w : World) (hTab : Tab w) (hs : s.size ≤ 30000) (h1 : 0 < s.size) (hd : 9 < (dig s).size) :
    Calls Tryd.prog 19 #[.string s, .string r] w fun e w' => e = .returned (.bool (numL (bl s) && bare (bl r))) ∧ w = w' := by
  have TC := fun w => trim_any s w hs h1
  have HN := Lib.hid (numL_dig s)
  have hds := dig_size s
  generalize dig s = d at *
  have de := str_ne d (by omega)
  have hd' : (9 : Int) < d.size := by omega
  have E : Hid (numL (bl s) = false) := Lib.hid (by rw [HN.out, decide_eq_false (show ¬ d.size ≤ 9 by omega), Bool.and_false]; rfl)
  go_enter Tryd.func19, Tryd.ntmps19
  go_wp2_with (first | (go_at_call 26; refine (TC _).mono ?_; rintro e w' ⟨rfl, rfl⟩))
  go_ret
  exact ⟨ret_bool (by rw [E.out]; rfl), rfl⟩

set_option maxHeartbeats 4000000 in
theorem isnum_word (s r : ByteArray) (w : World) (hTab : Tab w) (hs : s.size ≤ 30000) (h1 : 0 < s.size) (hd : 0 < (dig s).size) (hd9 : (dig s).size ≤ 9) (hr : 0 < r.size) (hrs : r.size ≤ 30000) (hA : isA r[0] = true) :
    Calls Tryd.prog 19 #[.string s, .string r] w fun e w' => e = .returned (.bool (numL (bl s) && bare (bl r))) ∧ w = w' := by
  have TC := fun w => trim_any s w hs h1
  have HN := Lib.hid (numL_dig s)
  have hds := dig_size s
  generalize dig s = d at *
  have de := str_ne d hd
  have re := str_ne r hr
  have hd' : (d.size : Int) ≤ 9 := by omega
  have hr' : (0 : Int) < r.size := by omega
  have hb := UInt8.toNat_lt r[0]
  have KC : ∀ w : World, Tab w → Calls Tryd.prog 24 #[.int .u8 40, .int .u8 (r[0].toNat : Int)] w fun e w' => e = .returned (.bool true) ∧ w = w' := fun w h => by rw [← hA]; exact incA_any _ w h
  have E : Hid (bare (bl r) = false) := Lib.hid (by rw [bare_isA r hr, hA]; rfl)
  clear hA
  go_enter Tryd.func19, Tryd.ntmps19
  go_wp2_with (first | (go_at_call 26; refine (TC _).mono ?_; rintro e w' ⟨rfl, rfl⟩) | (go_at_call 24; refine (KC _ hTab).mono ?_; rintro e w' ⟨rfl, rfl⟩))
  go_ret
  exact ⟨ret_bool (by rw [E.out, Bool.and_false]), rfl⟩

set_option maxHeartbeats 4000000 in
theorem isnum_end_ne (s r : ByteArray) (w : World) (hTab : Tab w) (hs : s.size ≤ 30000) (h1 : 0 < s.size) (hd : 0 < (dig s).size) (hd9 : (dig s).size ≤ 9) (hr : r.size = 0) (h48 : (dig s)[0] ≠ 48) :
    Calls Tryd.prog 19 #[.string s, .string r] w fun e w' => e = .returned (.bool (numL (bl s) && bare (bl r))) ∧ w = w' := by
  have TC := fun w => trim_any s w hs h1
  have HN := Lib.hid (numL_dig s)
  have hds := dig_size s
  generalize dig s = d at *
  have de := str_ne d hd
  have hd' : (d.size : Int) ≤ 9 := by omega
  have hd0 : (0 : Int) < d.size := by omega
  have re := str_eq r hr
  have HB : Hid (bare (bl r) = true) := Lib.hid (by rw [show bl r = [] from List.length_eq_zero_iff.1 (by rw [bl_len]; exact hr)]; rfl)
  have e48 : ((d[0].toNat : Int) != 48) = true := by
    have : d[0].toNat ≠ 48 := fun e => h48 (UInt8.toNat_inj.1 e)
    simp only [bne_iff_ne, ne_eq]
    omega
  have E : Hid (numL (bl s) = true) := Lib.hid (by rw [HN.out, decide_eq_true (show 1 ≤ d.size by omega), decide_eq_true hd9, decide_eq_true (show (bl d).head? ≠ some 48 by rw [bl_consx d hd]; simpa using h48)]; rfl)
  clear h48
  go_enter Tryd.func19, Tryd.ntmps19
  go_wp2_with (first | (go_at_call 26; refine (TC _).mono ?_; rintro e w' ⟨rfl, rfl⟩))
  go_ret
  exact ⟨ret_bool (by rw [E.out, HB.out, Bool.and_true]), rfl⟩

set_option maxHeartbeats 4000000 in
theorem isnum_end_eq (s r : ByteArray) (w : World) (hTab : Tab w) (hs : s.size ≤ 30000) (h1 : 0 < s.size) (hd : 0 < (dig s).size) (hd9 : (dig s).size ≤ 9) (hr : r.size = 0) (h48 : (dig s)[0] = 48) :
    Calls Tryd.prog 19 #[.string s, .string r] w fun e w' => e = .returned (.bool (numL (bl s) && bare (bl r))) ∧ w = w' := by
  have TC := fun w => trim_any s w hs h1
  have HN := Lib.hid (numL_dig s)
  have hds := dig_size s
  generalize dig s = d at *
  have de := str_ne d hd
  have hd' : (d.size : Int) ≤ 9 := by omega
  have hd0 : (0 : Int) < d.size := by omega
  have re := str_eq r hr
  have HB : Hid (bare (bl r) = true) := Lib.hid (by rw [show bl r = [] from List.length_eq_zero_iff.1 (by rw [bl_len]; exact hr)]; rfl)
  have e48 : ((d[0].toNat : Int) != 48) = false := by rw [h48]; rfl
  obtain ⟨q, hq⟩ : ∃ q, (s.toList == [48]) = q := ⟨_, rfl⟩
  have E : Hid (numL (bl s) = q) := Lib.hid (by
    rw [HN.out, decide_eq_true (show 1 ≤ d.size by omega), decide_eq_true hd9, decide_eq_false (show ¬ (bl d).head? ≠ some 48 by rw [bl_consx d hd]; simpa using h48), ← hq, ByteArray.toList_eq, show s.data.toList = bl s from rfl]
    simp only [decide_true, Bool.true_and, Bool.false_or]
    rw [Bool.eq_iff_iff]
    simp)
  clear h48
  go_enter Tryd.func19, Tryd.ntmps19
  go_wp2_with (first | (go_at_call 26; refine (TC _).mono ?_; rintro e w' ⟨rfl, rfl⟩))
  go_ret
  exact ⟨ret_bool (by rw [E.out, HB.out, Bool.and_true]), rfl⟩

set_option maxHeartbeats 4000000 in
theorem isnum_free_ne (s r : ByteArray) (w : World) (hTab : Tab w) (hs : s.size ≤ 30000) (h1 : 0 < s.size) (hd : 0 < (dig s).size) (hd9 : (dig s).size ≤ 9) (hr : 0 < r.size) (hrs : r.size ≤ 30000) (hA : isA r[0] = false) (h48 : (dig s)[0] ≠ 48) :
    Calls Tryd.prog 19 #[.string s, .string r] w fun e w' => e = .returned (.bool (numL (bl s) && bare (bl r))) ∧ w = w' := by
  have TC := fun w => trim_any s w hs h1
  have HN := Lib.hid (numL_dig s)
  have hds := dig_size s
  generalize dig s = d at *
  have de := str_ne d hd
  have hd' : (d.size : Int) ≤ 9 := by omega
  have hd0 : (0 : Int) < d.size := by omega
  have re := str_ne r hr
  have hr' : (0 : Int) < r.size := by omega
  have hb := UInt8.toNat_lt r[0]
  have KC : ∀ w : World, Tab w → Calls Tryd.prog 24 #[.int .u8 40, .int .u8 (r[0].toNat : Int)] w fun e w' => e = .returned (.bool false) ∧ w = w' := fun w h => by rw [← hA]; exact incA_any _ w h
  have HB : Hid (bare (bl r) = true) := Lib.hid (by rw [bare_isA r hr, hA]; rfl)
  clear hA
  have e48 : ((d[0].toNat : Int) != 48) = true := by
    have : d[0].toNat ≠ 48 := fun e => h48 (UInt8.toNat_inj.1 e)
    simp only [bne_iff_ne, ne_eq]
    omega
  have E : Hid (numL (bl s) = true) := Lib.hid (by rw [HN.out, decide_eq_true (show 1 ≤ d.size by omega), decide_eq_true hd9, decide_eq_true (show (bl d).head? ≠ some 48 by rw [bl_consx d hd]; simpa using h48)]; rfl)
  clear h48
  go_enter Tryd.func19, Tryd.ntmps19
  go_wp2_with (first | (go_at_call 26; refine (TC _).mono ?_; rintro e w' ⟨rfl, rfl⟩) | (go_at_call 24; refine (KC _ hTab).mono ?_; rintro e w' ⟨rfl, rfl⟩))
  go_ret
  exact ⟨ret_bool (by rw [E.out, HB.out, Bool.and_true]), rfl⟩

set_option maxHeartbeats 4000000 in
theorem isnum_free_eq (s r : ByteArray) (w : World) (hTab : Tab w) (hs : s.size ≤ 30000) (h1 : 0 < s.size) (hd : 0 < (dig s).size) (hd9 : (dig s).size ≤ 9) (hr : 0 < r.size) (hrs : r.size ≤ 30000) (hA : isA r[0] = false) (h48 : (dig s)[0] = 48) :
    Calls Tryd.prog 19 #[.string s, .string r] w fun e w' => e = .returned (.bool (numL (bl s) && bare (bl r))) ∧ w = w' := by
  have TC := fun w => trim_any s w hs h1
  have HN := Lib.hid (numL_dig s)
  have hds := dig_size s
  generalize dig s = d at *
  have de := str_ne d hd
  have hd' : (d.size : Int) ≤ 9 := by omega
  have hd0 : (0 : Int) < d.size := by omega
  have re := str_ne r hr
  have hr' : (0 : Int) < r.size := by omega
  have hb := UInt8.toNat_lt r[0]
  have KC : ∀ w : World, Tab w → Calls Tryd.prog 24 #[.int .u8 40, .int .u8 (r[0].toNat : Int)] w fun e w' => e = .returned (.bool false) ∧ w = w' := fun w h => by rw [← hA]; exact incA_any _ w h
  have HB : Hid (bare (bl r) = true) := Lib.hid (by rw [bare_isA r hr, hA]; rfl)
  clear hA
  have e48 : ((d[0].toNat : Int) != 48) = false := by rw [h48]; rfl
  obtain ⟨q, hq⟩ : ∃ q, (s.toList == [48]) = q := ⟨_, rfl⟩
  have E : Hid (numL (bl s) = q) := Lib.hid (by
    rw [HN.out, decide_eq_true (show 1 ≤ d.size by omega), decide_eq_true hd9, decide_eq_false (show ¬ (bl d).head? ≠ some 48 by rw [bl_consx d hd]; simpa using h48), ← hq, ByteArray.toList_eq, show s.data.toList = bl s from rfl]
    simp only [decide_true, Bool.true_and, Bool.false_or]
    rw [Bool.eq_iff_iff]
    simp)
  clear h48
  go_enter Tryd.func19, Tryd.ntmps19
  go_wp2_with (first | (go_at_call 26; refine (TC _).mono ?_; rintro e w' ⟨rfl, rfl⟩) | (go_at_call 24; refine (KC _ hTab).mono ?_; rintro e w' ⟨rfl, rfl⟩))
  go_ret
  exact ⟨ret_bool (by rw [E.out, HB.out, Bool.and_true]), rfl⟩

theorem isnum_any (s r : ByteArray) (w : World) (hTab : Tab w) (hs : s.size ≤ 30000) (h1 : 0 < s.size) (hrs : r.size ≤ 30000) :
    Calls Tryd.prog 19 #[.string s, .string r] w fun e w' => e = .returned (.bool (numL (bl s) && bare (bl r))) ∧ w = w' := by
  by_cases hd : (dig s).size = 0
  · exact isnum_none s r w hTab hs h1 hd
  by_cases h9 : 9 < (dig s).size
  · exact isnum_long s r w hTab hs h1 h9
  by_cases hr : r.size = 0
  · by_cases h48 : (dig s)[0] = 48
    · exact isnum_end_eq s r w hTab hs h1 (by omega) (by omega) hr h48
    · exact isnum_end_ne s r w hTab hs h1 (by omega) (by omega) hr h48
  · cases hA : isA r[0] with
    | true => exact isnum_word s r w hTab hs h1 (by omega) (by omega) (by omega) hrs hA
    | false =>
      by_cases h48 : (dig s)[0] = 48
      · exact isnum_free_eq s r w hTab hs h1 (by omega) (by omega) (by omega) hrs hA h48
      · exact isnum_free_ne s r w hTab hs h1 (by omega) (by omega) (by omega) hrs hA h48

set_option maxHeartbeats 4000000 in
theorem cls_cases : ∀ c : UInt8, (clsI c = 8 ∧ kd c = 1) ∨ (clsI c = 16 ∧ kd c = 2) ∨ (clsI c = 32 ∧ kd c = 3) ∨ (clsI c = 128 ∧ kd c = 4) ∨ (clsI c = 1 ∧ kd c = 5) ∨ (clsI c = 3 ∧ kd c = 5) ∨ (clsI c = 4 ∧ kd c = 6) ∨ (clsI c = 64 ∧ kd c = 7) ∨ (clsI c = 0 ∧ kd c = 0) := fun c => all_bytes (P := fun c => (clsI c = 8 ∧ kd c = 1) ∨ (clsI c = 16 ∧ kd c = 2) ∨ (clsI c = 32 ∧ kd c = 3) ∨ (clsI c = 128 ∧ kd c = 4) ∨ (clsI c = 1 ∧ kd c = 5) ∨ (clsI c = 3 ∧ kd c = 5) ∨ (clsI c = 4 ∧ kd c = 6) ∨ (clsI c = 64 ∧ kd c = 7) ∨ (clsI c = 0 ∧ kd c = 0)) (by decide +kernel) c
set_option maxHeartbeats 4000000 in
theorem meas_word (s : ByteArray) (a : Nat) (w : World) (hTab : Tab w) (hs : s.size ≤ 30000) (ha : a < s.size) (hq : kd s[a] = 1) (z : Nat) (T : Bs) (hT : Hid (((bl s).drop (a + 1)).dropWhile isW = T)) (he : Hid (s.size - T.length = z)) :
    Calls Tryd.prog 18 #[.string s, .int .i64 a] w fun e w' => e = .returned (.tuple #[.int .i64 1, .int .i64 z]) ∧ w = w' := by
  have ht := hTab s[a]
  have hlt := UInt8.toNat_lt s[a]
  have hlt' : (s[a].toNat : Int) < 256 := by omega
  have h0 : (0 : Int) ≤ s[a].toNat := by omega
  have ha' : (a : Int) < s.size := by omega
  have SC : ∀ w : World, Tab w → Calls Tryd.prog 23 #[.string s, .int .i64 ((a : Int) + 1), .func (.func 24) #[.int .u8 56] #[]] w fun e w' => e = .returned (.int .i64 z) ∧ w = w' := fun w h => by rw [← he.out]; exact scanW_any s (a + 1) T w h hs (by omega) hT
  have hc : clsI s[a] = 8 := by rcases cls_cases s[a] with h | h | h | h | h | h | h | h | h <;> omega
  rw [hc] at ht
  clear hc hq
  go_enter Tryd.func18, Tryd.ntmps18
  go_wp2_with (go_at_call 23; refine (SC _ hTab).mono ?_; rintro e w' ⟨rfl, rfl⟩)
  exact bodyPost_ret (v := .tuple #[.int .i64 1, .int .i64 z]) (by simp [results, Tryd.results18, go_sem]) rfl ⟨rfl, rfl⟩

set_option maxHeartbeats 4000000 in
theorem meas_num2 (s : ByteArray) (a : Nat) (w : World) (hTab : Tab w) (hs : s.size ≤ 30000) (ha : a < s.size) (hq : kd s[a] = 2) (z : Nat) (T : Bs) (hT : Hid (((bl s).drop (a + 1)).dropWhile isD = T)) (he : Hid (s.size - T.length = z)) :
    Calls Tryd.prog 18 #[.string s, .int .i64 a] w fun e w' => e = .returned (.tuple #[.int .i64 2, .int .i64 z]) ∧ w = w' := by
  have ht := hTab s[a]
  have hlt := UInt8.toNat_lt s[a]
  have hlt' : (s[a].toNat : Int) < 256 := by omega
  have h0 : (0 : Int) ≤ s[a].toNat := by omega
  have ha' : (a : Int) < s.size := by omega
  have SC : ∀ w : World, Tab w → Calls Tryd.prog 23 #[.string s, .int .i64 ((a : Int) + 1), .func (.func 24) #[.int .u8 16] #[]] w fun e w' => e = .returned (.int .i64 z) ∧ w = w' := fun w h => by rw [← he.out]; exact scanD_any s (a + 1) T w h hs (by omega) hT
  have hc : clsI s[a] = 16 := by rcases cls_cases s[a] with h | h | h | h | h | h | h | h | h <;> omega
  rw [hc] at ht
  clear hc hq
  go_enter Tryd.func18, Tryd.ntmps18
  go_wp2_with (go_at_call 23; refine (SC _ hTab).mono ?_; rintro e w' ⟨rfl, rfl⟩)
  exact bodyPost_ret (v := .tuple #[.int .i64 2, .int .i64 z]) (by simp [results, Tryd.results18, go_sem]) rfl ⟨rfl, rfl⟩

set_option maxHeartbeats 4000000 in
theorem meas_num7 (s : ByteArray) (a : Nat) (w : World) (hTab : Tab w) (hs : s.size ≤ 30000) (ha : a < s.size) (hq : kd s[a] = 7) (z : Nat) (T : Bs) (hT : Hid (((bl s).drop (a + 1)).dropWhile isD = T)) (he : Hid (s.size - T.length = z)) :
    Calls Tryd.prog 18 #[.string s, .int .i64 a] w fun e w' => e = .returned (.tuple #[.int .i64 2, .int .i64 z]) ∧ w = w' := by
  have ht := hTab s[a]
  have hlt := UInt8.toNat_lt s[a]
  have hlt' : (s[a].toNat : Int) < 256 := by omega
  have h0 : (0 : Int) ≤ s[a].toNat := by omega
  have ha' : (a : Int) < s.size := by omega
  have SC : ∀ w : World, Tab w → Calls Tryd.prog 23 #[.string s, .int .i64 ((a : Int) + 1), .func (.func 24) #[.int .u8 16] #[]] w fun e w' => e = .returned (.int .i64 z) ∧ w = w' := fun w h => by rw [← he.out]; exact scanD_any s (a + 1) T w h hs (by omega) hT
  have hc : clsI s[a] = 64 := by rcases cls_cases s[a] with h | h | h | h | h | h | h | h | h <;> omega
  rw [hc] at ht
  clear hc hq
  go_enter Tryd.func18, Tryd.ntmps18
  go_wp2_with (go_at_call 23; refine (SC _ hTab).mono ?_; rintro e w' ⟨rfl, rfl⟩)
  exact bodyPost_ret (v := .tuple #[.int .i64 2, .int .i64 z]) (by simp [results, Tryd.results18, go_sem]) rfl ⟨rfl, rfl⟩

set_option maxHeartbeats 4000000 in
theorem meas_sign (s : ByteArray) (a : Nat) (w : World) (hTab : Tab w) (hs : s.size ≤ 30000) (ha : a < s.size) (hq : kd s[a] = 4) :
    Calls Tryd.prog 18 #[.string s, .int .i64 a] w fun e w' => e = .returned (.tuple #[.int .i64 3, .int .i64 ((a : Int) + 1)]) ∧ w = w' := by
  have ht := hTab s[a]
  have hlt := UInt8.toNat_lt s[a]
  have hlt' : (s[a].toNat : Int) < 256 := by omega
  have h0 : (0 : Int) ≤ s[a].toNat := by omega
  have ha' : (a : Int) < s.size := by omega
  have hc : clsI s[a] = 128 := by rcases cls_cases s[a] with h | h | h | h | h | h | h | h | h <;> omega
  rw [hc] at ht
  clear hc hq
  go_enter Tryd.func18, Tryd.ntmps18
  go_wp2
  exact bodyPost_ret (v := .tuple #[.int .i64 3, .int .i64 ((a : Int) + 1)]) (by simp [results, Tryd.results18, go_sem]) rfl ⟨rfl, rfl⟩

set_option maxHeartbeats 4000000 in
theorem meas_bad0 (s : ByteArray) (a : Nat) (w : World) (hTab : Tab w) (hs : s.size ≤ 30000) (ha : a < s.size) (hq : kd s[a] = 0) :
    Calls Tryd.prog 18 #[.string s, .int .i64 a] w fun e w' => e = .returned (.tuple #[.int .i64 0, .int .i64 a]) ∧ w = w' := by
  have ht := hTab s[a]
  have hlt := UInt8.toNat_lt s[a]
  have hlt' : (s[a].toNat : Int) < 256 := by omega
  have h0 : (0 : Int) ≤ s[a].toNat := by omega
  have ha' : (a : Int) < s.size := by omega
  have hc : clsI s[a] = 0 := by rcases cls_cases s[a] with h | h | h | h | h | h | h | h | h <;> omega
  rw [hc] at ht
  clear hc hq
  go_enter Tryd.func18, Tryd.ntmps18
  go_wp2
  exact bodyPost_ret (v := .tuple #[.int .i64 0, .int .i64 a]) (by simp [results, Tryd.results18, go_sem]) rfl ⟨rfl, rfl⟩

set_option maxHeartbeats 4000000 in
theorem meas_bad3 (s : ByteArray) (a : Nat) (w : World) (hTab : Tab w) (hs : s.size ≤ 30000) (ha : a < s.size) (hq : kd s[a] = 3) :
    Calls Tryd.prog 18 #[.string s, .int .i64 a] w fun e w' => e = .returned (.tuple #[.int .i64 0, .int .i64 a]) ∧ w = w' := by
  have ht := hTab s[a]
  have hlt := UInt8.toNat_lt s[a]
  have hlt' : (s[a].toNat : Int) < 256 := by omega
  have h0 : (0 : Int) ≤ s[a].toNat := by omega
  have ha' : (a : Int) < s.size := by omega
  have hc : clsI s[a] = 32 := by rcases cls_cases s[a] with h | h | h | h | h | h | h | h | h <;> omega
  rw [hc] at ht
  clear hc hq
  go_enter Tryd.func18, Tryd.ntmps18
  go_wp2
  exact bodyPost_ret (v := .tuple #[.int .i64 0, .int .i64 a]) (by simp [results, Tryd.results18, go_sem]) rfl ⟨rfl, rfl⟩

set_option maxHeartbeats 4000000 in
theorem meas_bad5 (s : ByteArray) (a : Nat) (w : World) (hTab : Tab w) (hs : s.size ≤ 30000) (ha : a < s.size) (hq : kd s[a] = 5) :
    Calls Tryd.prog 18 #[.string s, .int .i64 a] w fun e w' => e = .returned (.tuple #[.int .i64 0, .int .i64 a]) ∧ w = w' := by
  have ht := hTab s[a]
  have hlt := UInt8.toNat_lt s[a]
  have hlt' : (s[a].toNat : Int) < 256 := by omega
  have h0 : (0 : Int) ≤ s[a].toNat := by omega
  have ha' : (a : Int) < s.size := by omega
  have hc : clsI s[a] = 1 ∨ clsI s[a] = 3 := by rcases cls_cases s[a] with h | h | h | h | h | h | h | h | h <;> omega
  clear hq
  rcases hc with hc | hc
  all_goals
    rw [hc] at ht
    clear hc
    go_enter Tryd.func18, Tryd.ntmps18
    go_wp2
    exact bodyPost_ret (v := .tuple #[.int .i64 0, .int .i64 a]) (by simp [results, Tryd.results18, go_sem]) rfl ⟨rfl, rfl⟩

set_option maxHeartbeats 4000000 in
theorem meas_bad6 (s : ByteArray) (a : Nat) (w : World) (hTab : Tab w) (hs : s.size ≤ 30000) (ha : a < s.size) (hq : kd s[a] = 6) :
    Calls Tryd.prog 18 #[.string s, .int .i64 a] w fun e w' => e = .returned (.tuple #[.int .i64 0, .int .i64 a]) ∧ w = w' := by
  have ht := hTab s[a]
  have hlt := UInt8.toNat_lt s[a]
  have hlt' : (s[a].toNat : Int) < 256 := by omega
  have h0 : (0 : Int) ≤ s[a].toNat := by omega
  have ha' : (a : Int) < s.size := by omega
  have hc : clsI s[a] = 4 := by rcases cls_cases s[a] with h | h | h | h | h | h | h | h | h <;> omega
  rw [hc] at ht
  clear hc hq
  go_enter Tryd.func18, Tryd.ntmps18
  go_wp2
  exact bodyPost_ret (v := .tuple #[.int .i64 0, .int .i64 a]) (by simp [results, Tryd.results18, go_sem]) rfl ⟨rfl, rfl⟩

end Go.Proofs.YtfimejmmcfdgaaaDoor
