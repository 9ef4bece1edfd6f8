/- Contracts of the landed lexer: includes, excludes, scan, skip. Conditions: the table of classes lies as the program's text lays it (Tab); the text has at most 30000 bytes. -/
import Derived.Test.YtfimejmmcfdgaaaDoorLxT
namespace Go.Proofs.YtfimejmmcfdgaaaDoor
open Go.ChangeShapes Go.WideShapes Go.ChangeAt Go.RowKit
set_option linter.unusedVariables false
set_option linter.unusedSimpArgs false
set_option maxRecDepth 100000
theorem all_bytes {P : UInt8 → Prop} (h : ∀ k < 256, P (UInt8.ofNat k)) (c : UInt8) : P c := by
  have := h c.toNat c.toNat_lt
  rwa [UInt8.ofNat_toNat] at this
def isB (c : UInt8) : Bool := kd c == 5
def isC (c : UInt8) : Bool := c != 10
def isA (c : UInt8) : Bool := kd c == 1 || kd c == 3
def noH (c : UInt8) : Bool := kd c != 6

theorem bitsB (c : UInt8) : (bits BinOp.and IntKind.u8 (clsI c) 1 != 0) = isB c := all_bytes (P := fun c => (bits BinOp.and IntKind.u8 (clsI c) 1 != 0) = isB c) (by decide +kernel) c
set_option maxHeartbeats 4000000 in
theorem incB_any (c : UInt8) (w : World) (hT : Tab w) : Calls Tryd.prog 24 #[.int .u8 1, .int .u8 (c.toNat : Int)] w fun e w' => e = .returned (.bool (isB c)) ∧ w = w' := by
  have ht := hT c
  have hlt := c.toNat_lt
  have hlt' : (c.toNat : Int) < 256 := by omega
  have h0 : (0 : Int) ≤ c.toNat := by omega
  have E := Lib.hid (bitsB c)
  generalize clsI c = x at *
  go_enter Tryd.func24, Tryd.ntmps24
  go_wp2
  go_ret
  exact ⟨ret_bool E.out, rfl⟩

theorem bitsW (c : UInt8) : (bits BinOp.and IntKind.u8 (clsI c) 56 != 0) = isW c := all_bytes (P := fun c => (bits BinOp.and IntKind.u8 (clsI c) 56 != 0) = isW c) (by decide +kernel) c
set_option maxHeartbeats 4000000 in
theorem incW_any (c : UInt8) (w : World) (hT : Tab w) : Calls Tryd.prog 24 #[.int .u8 56, .int .u8 (c.toNat : Int)] w fun e w' => e = .returned (.bool (isW c)) ∧ w = w' := by
  have ht := hT c
  have hlt := c.toNat_lt
  have hlt' : (c.toNat : Int) < 256 := by omega
  have h0 : (0 : Int) ≤ c.toNat := by omega
  have E := Lib.hid (bitsW c)
  generalize clsI c = x at *
  go_enter Tryd.func24, Tryd.ntmps24
  go_wp2
  go_ret
  exact ⟨ret_bool E.out, rfl⟩

theorem bitsD (c : UInt8) : (bits BinOp.and IntKind.u8 (clsI c) 16 != 0) = isD c := all_bytes (P := fun c => (bits BinOp.and IntKind.u8 (clsI c) 16 != 0) = isD c) (by decide +kernel) c
set_option maxHeartbeats 4000000 in
theorem incD_any (c : UInt8) (w : World) (hT : Tab w) : Calls Tryd.prog 24 #[.int .u8 16, .int .u8 (c.toNat : Int)] w fun e w' => e = .returned (.bool (isD c)) ∧ w = w' := by
  have ht := hT c
  have hlt := c.toNat_lt
  have hlt' : (c.toNat : Int) < 256 := by omega
  have h0 : (0 : Int) ≤ c.toNat := by omega
  have E := Lib.hid (bitsD c)
  generalize clsI c = x at *
  go_enter Tryd.func24, Tryd.ntmps24
  go_wp2
  go_ret
  exact ⟨ret_bool E.out, rfl⟩

theorem bitsA (c : UInt8) : (bits BinOp.and IntKind.u8 (clsI c) 40 != 0) = isA c := all_bytes (P := fun c => (bits BinOp.and IntKind.u8 (clsI c) 40 != 0) = isA c) (by decide +kernel) c
set_option maxHeartbeats 4000000 in
theorem incA_any (c : UInt8) (w : World) (hT : Tab w) : Calls Tryd.prog 24 #[.int .u8 40, .int .u8 (c.toNat : Int)] w fun e w' => e = .returned (.bool (isA c)) ∧ w = w' := by
  have ht := hT c
  have hlt := c.toNat_lt
  have hlt' : (c.toNat : Int) < 256 := by omega
  have h0 : (0 : Int) ≤ c.toNat := by omega
  have E := Lib.hid (bitsA c)
  generalize clsI c = x at *
  go_enter Tryd.func24, Tryd.ntmps24
  go_wp2
  go_ret
  exact ⟨ret_bool E.out, rfl⟩

theorem bitsH (c : UInt8) : (bits BinOp.and IntKind.u8 (clsI c) 4 == 0) = noH c := all_bytes (P := fun c => (bits BinOp.and IntKind.u8 (clsI c) 4 == 0) = noH c) (by decide +kernel) c
set_option maxHeartbeats 4000000 in
theorem incH_any (c : UInt8) (w : World) (hT : Tab w) : Calls Tryd.prog 25 #[.int .u8 4, .int .u8 (c.toNat : Int)] w fun e w' => e = .returned (.bool (noH c)) ∧ w = w' := by
  have ht := hT c
  have hlt := c.toNat_lt
  have hlt' : (c.toNat : Int) < 256 := by omega
  have h0 : (0 : Int) ≤ c.toNat := by omega
  have E := Lib.hid (bitsH c)
  generalize clsI c = x at *
  go_enter Tryd.func25, Tryd.ntmps25
  go_wp2
  go_ret
  exact ⟨ret_bool E.out, rfl⟩

theorem bitsC (c : UInt8) : (bits BinOp.and IntKind.u8 (clsI c) 2 == 0) = isC c := all_bytes (P := fun c => (bits BinOp.and IntKind.u8 (clsI c) 2 == 0) = isC c) (by decide +kernel) c
set_option maxHeartbeats 4000000 in
theorem incC_any (c : UInt8) (w : World) (hT : Tab w) : Calls Tryd.prog 25 #[.int .u8 2, .int .u8 (c.toNat : Int)] w fun e w' => e = .returned (.bool (isC c)) ∧ w = w' := by
  have ht := hT c
  have hlt := c.toNat_lt
  have hlt' : (c.toNat : Int) < 256 := by omega
  have h0 : (0 : Int) ≤ c.toNat := by omega
  have E := Lib.hid (bitsC c)
  generalize clsI c = x at *
  go_enter Tryd.func25, Tryd.ntmps25
  go_wp2
  go_ret
  exact ⟨ret_bool E.out, rfl⟩

set_option maxHeartbeats 4000000 in
theorem scanB_any (s : ByteArray) (a : Nat) (T : Bs) (w : World) (hTab : Tab w) (hs : s.size ≤ 30000) (ha : a ≤ s.size) (hT : Hid (((bl s).drop a).dropWhile isB = T)) :
    Calls Tryd.prog 23 #[.string s, .int .i64 a, .func (.func 24) #[.int .u8 1] #[]] w fun e w' => e = .returned (.int .i64 (s.size - T.length : Nat)) ∧ w = w' := by
  go_enter Tryd.func23, Tryd.ntmps23
  go_wp2
  go_loop [1] (fun i => ∃ k : Nat, k ≤ s.size ∧ i = .int .i64 k ∧ Hid (((bl s).drop k).dropWhile isB = T)) (fun i => s.size - (intOf i).toNat)
  case atStart => exact ⟨a, ha, rfl, hT⟩
  case round =>
    clear hT
    obtain ⟨k, hk, rfl, hT⟩ := hrel
    by_cases hlt : k < s.size
    rotate_left
    · have hlt' : ¬ (k : Int) < s.size := by omega
      have E : Hid (s.size - T.length = k) := Lib.hid (by
        have : k = s.size := by omega
        subst this
        have := hT.out
        rw [bl_end] at this
        rw [← this]
        rfl)
      go_wp2
      go_ret
      exact ⟨ret_int (by rw [E.out]), rfl⟩
    · have D := Lib.hid (bl_drop s k hlt)
      have hb := UInt8.toNat_lt s[k]
      obtain ⟨q, hq⟩ : ∃ q, isB s[k] = q := ⟨_, rfl⟩
      have KC : ∀ w : World, Tab w → Calls Tryd.prog 24 #[.int .u8 1, .int .u8 (s[k].toNat : Int)] w fun e w' => e = .returned (.bool q) ∧ w = w' := fun w h => by rw [← hq]; exact incB_any _ w h
      have HQ := Lib.hid hq
      clear hq
      cases q with
      | true =>
        have HN : Hid (((bl s).drop (k + 1)).dropWhile isB = T) := Lib.hid (by
          have := hT.out
          rw [D.out, List.dropWhile_cons] at this
          rwa [if_pos HQ.out] at this)
        go_wp2_with (go_at_call 24; refine (KC _ hTab).mono ?_; rintro e w' ⟨rfl, rfl⟩)
        exact ⟨⟨k + 1, by omega, by go_num, HN⟩, by simp [intOf]; omega⟩
      | false =>
        have E : Hid (s.size - T.length = k) := Lib.hid (drop_len (by
          have := hT.out
          rw [D.out, List.dropWhile_cons, if_neg (by simp [HQ.out]), ← D.out] at this
          exact this) hk)
        go_wp2_with (go_at_call 24; refine (KC _ hTab).mono ?_; rintro e w' ⟨rfl, rfl⟩)
        go_ret
        exact ⟨ret_int (by rw [E.out]), rfl⟩

set_option maxHeartbeats 4000000 in
theorem scanW_any (s : ByteArray) (a : Nat) (T : Bs) (w : World) (hTab : Tab w) (hs : s.size ≤ 30000) (ha : a ≤ s.size) (hT : Hid (((bl s).drop a).dropWhile isW = T)) :
    Calls Tryd.prog 23 #[.string s, .int .i64 a, .func (.func 24) #[.int .u8 56] #[]] w fun e w' => e = .returned (.int .i64 (s.size - T.length : Nat)) ∧ w = w' := by
  go_enter Tryd.func23, Tryd.ntmps23
  go_wp2
  go_loop [1] (fun i => ∃ k : Nat, k ≤ s.size ∧ i = .int .i64 k ∧ Hid (((bl s).drop k).dropWhile isW = T)) (fun i => s.size - (intOf i).toNat)
  case atStart => exact ⟨a, ha, rfl, hT⟩
  case round =>
    clear hT
    obtain ⟨k, hk, rfl, hT⟩ := hrel
    by_cases hlt : k < s.size
    rotate_left
    · have hlt' : ¬ (k : Int) < s.size := by omega
      have E : Hid (s.size - T.length = k) := Lib.hid (by
        have : k = s.size := by omega
        subst this
        have := hT.out
        rw [bl_end] at this
        rw [← this]
        rfl)
      go_wp2
      go_ret
      exact ⟨ret_int (by rw [E.out]), rfl⟩
    · have D := Lib.hid (bl_drop s k hlt)
      have hb := UInt8.toNat_lt s[k]
      obtain ⟨q, hq⟩ : ∃ q, isW s[k] = q := ⟨_, rfl⟩
      have KC : ∀ w : World, Tab w → Calls Tryd.prog 24 #[.int .u8 56, .int .u8 (s[k].toNat : Int)] w fun e w' => e = .returned (.bool q) ∧ w = w' := fun w h => by rw [← hq]; exact incW_any _ w h
      have HQ := Lib.hid hq
      clear hq
      cases q with
      | true =>
        have HN : Hid (((bl s).drop (k + 1)).dropWhile isW = T) := Lib.hid (by
          have := hT.out
          rw [D.out, List.dropWhile_cons] at this
          rwa [if_pos HQ.out] at this)
        go_wp2_with (go_at_call 24; refine (KC _ hTab).mono ?_; rintro e w' ⟨rfl, rfl⟩)
        exact ⟨⟨k + 1, by omega, by go_num, HN⟩, by simp [intOf]; omega⟩
      | false =>
        have E : Hid (s.size - T.length = k) := Lib.hid (drop_len (by
          have := hT.out
          rw [D.out, List.dropWhile_cons, if_neg (by simp [HQ.out]), ← D.out] at this
          exact this) hk)
        go_wp2_with (go_at_call 24; refine (KC _ hTab).mono ?_; rintro e w' ⟨rfl, rfl⟩)
        go_ret
        exact ⟨ret_int (by rw [E.out]), rfl⟩

set_option maxHeartbeats 4000000 in
theorem scanD_any (s : ByteArray) (a : Nat) (T : Bs) (w : World) (hTab : Tab w) (hs : s.size ≤ 30000) (ha : a ≤ s.size) (hT : Hid (((bl s).drop a).dropWhile isD = T)) :
    Calls Tryd.prog 23 #[.string s, .int .i64 a, .func (.func 24) #[.int .u8 16] #[]] w fun e w' => e = .returned (.int .i64 (s.size - T.length : Nat)) ∧ w = w' := by
  go_enter Tryd.func23, Tryd.ntmps23
  go_wp2
  go_loop [1] (fun i => ∃ k : Nat, k ≤ s.size ∧ i = .int .i64 k ∧ Hid (((bl s).drop k).dropWhile isD = T)) (fun i => s.size - (intOf i).toNat)
  case atStart => exact ⟨a, ha, rfl, hT⟩
  case round =>
    clear hT
    obtain ⟨k, hk, rfl, hT⟩ := hrel
    by_cases hlt : k < s.size
    rotate_left
    · have hlt' : ¬ (k : Int) < s.size := by omega
      have E : Hid (s.size - T.length = k) := Lib.hid (by
        have : k = s.size := by omega
        subst this
        have := hT.out
        rw [bl_end] at this
        rw [← this]
        rfl)
      go_wp2
      go_ret
      exact ⟨ret_int (by rw [E.out]), rfl⟩
    · have D := Lib.hid (bl_drop s k hlt)
      have hb := UInt8.toNat_lt s[k]
      obtain ⟨q, hq⟩ : ∃ q, isD s[k] = q := ⟨_, rfl⟩
      have KC : ∀ w : World, Tab w → Calls Tryd.prog 24 #[.int .u8 16, .int .u8 (s[k].toNat : Int)] w fun e w' => e = .returned (.bool q) ∧ w = w' := fun w h => by rw [← hq]; exact incD_any _ w h
      have HQ := Lib.hid hq
      clear hq
      cases q with
      | true =>
        have HN : Hid (((bl s).drop (k + 1)).dropWhile isD = T) := Lib.hid (by
          have := hT.out
          rw [D.out, List.dropWhile_cons] at this
          rwa [if_pos HQ.out] at this)
        go_wp2_with (go_at_call 24; refine (KC _ hTab).mono ?_; rintro e w' ⟨rfl, rfl⟩)
        exact ⟨⟨k + 1, by omega, by go_num, HN⟩, by simp [intOf]; omega⟩
      | false =>
        have E : Hid (s.size - T.length = k) := Lib.hid (drop_len (by
          have := hT.out
          rw [D.out, List.dropWhile_cons, if_neg (by simp [HQ.out]), ← D.out] at this
          exact this) hk)
        go_wp2_with (go_at_call 24; refine (KC _ hTab).mono ?_; rintro e w' ⟨rfl, rfl⟩)
        go_ret
        exact ⟨ret_int (by rw [E.out]), rfl⟩

set_option maxHeartbeats 4000000 in
theorem scanC_any (s : ByteArray) (a : Nat) (T : Bs) (w : World) (hTab : Tab w) (hs : s.size ≤ 30000) (ha : a ≤ s.size) (hT : Hid (((bl s).drop a).dropWhile isC = T)) :
    Calls Tryd.prog 23 #[.string s, .int .i64 a, .func (.func 25) #[.int .u8 2] #[]] w fun e w' => e = .returned (.int .i64 (s.size - T.length : Nat)) ∧ w = w' := by
  go_enter Tryd.func23, Tryd.ntmps23
  go_wp2
  go_loop [1] (fun i => ∃ k : Nat, k ≤ s.size ∧ i = .int .i64 k ∧ Hid (((bl s).drop k).dropWhile isC = T)) (fun i => s.size - (intOf i).toNat)
  case atStart => exact ⟨a, ha, rfl, hT⟩
  case round =>
    clear hT
    obtain ⟨k, hk, rfl, hT⟩ := hrel
    by_cases hlt : k < s.size
    rotate_left
    · have hlt' : ¬ (k : Int) < s.size := by omega
      have E : Hid (s.size - T.length = k) := Lib.hid (by
        have : k = s.size := by omega
        subst this
        have := hT.out
        rw [bl_end] at this
        rw [← this]
        rfl)
      go_wp2
      go_ret
      exact ⟨ret_int (by rw [E.out]), rfl⟩
    · have D := Lib.hid (bl_drop s k hlt)
      have hb := UInt8.toNat_lt s[k]
      obtain ⟨q, hq⟩ : ∃ q, isC s[k] = q := ⟨_, rfl⟩
      have KC : ∀ w : World, Tab w → Calls Tryd.prog 25 #[.int .u8 2, .int .u8 (s[k].toNat : Int)] w fun e w' => e = .returned (.bool q) ∧ w = w' := fun w h => by rw [← hq]; exact incC_any _ w h
      have HQ := Lib.hid hq
      clear hq
      cases q with
      | true =>
        have HN : Hid (((bl s).drop (k + 1)).dropWhile isC = T) := Lib.hid (by
          have := hT.out
          rw [D.out, List.dropWhile_cons] at this
          rwa [if_pos HQ.out] at this)
        go_wp2_with (go_at_call 25; refine (KC _ hTab).mono ?_; rintro e w' ⟨rfl, rfl⟩)
        exact ⟨⟨k + 1, by omega, by go_num, HN⟩, by simp [intOf]; omega⟩
      | false =>
        have E : Hid (s.size - T.length = k) := Lib.hid (drop_len (by
          have := hT.out
          rw [D.out, List.dropWhile_cons, if_neg (by simp [HQ.out]), ← D.out] at this
          exact this) hk)
        go_wp2_with (go_at_call 25; refine (KC _ hTab).mono ?_; rintro e w' ⟨rfl, rfl⟩)
        go_ret
        exact ⟨ret_int (by rw [E.out]), rfl⟩

theorem gapL_blank (l : Bs) : gapL false (l.dropWhile isB) = gapL false l := by
  induction l with
  | nil => rfl
  | cons c l ih =>
    by_cases h : kd c = 5
    · rw [List.dropWhile_cons, if_pos (by simp [isB, h]), ih]
      simp only [gapL, if_pos h]
    · rw [List.dropWhile_cons, if_neg (by simp [isB, h])]
theorem gapL_note (l : Bs) : gapL false (l.dropWhile isC) = gapL true l := by
  induction l with
  | nil => rfl
  | cons c l ih =>
    by_cases h : c = 10
    · subst h
      rw [List.dropWhile_cons, if_neg (by simp [isC])]
      simp only [gapL, if_pos kd10]
      rfl
    · rw [List.dropWhile_cons, if_pos (by simp [isC, h]), ih]
      simp only [gapL]
      rw [show (c != 10) = true by simpa using h]
set_option maxHeartbeats 4000000 in
theorem skip_any (s : ByteArray) (a : Nat) (T : Bs) (w : World) (hTab : Tab w) (hs : s.size ≤ 30000) (ha : a ≤ s.size) (hT : Hid (gapL false ((bl s).drop a) = T)) :
    Calls Tryd.prog 17 #[.string s, .int .i64 a] w fun e w' => e = .returned (.int .i64 (s.size - T.length : Nat)) ∧ w = w' := by
  go_enter Tryd.func17, Tryd.ntmps17
  go_wp2
  go_loop [1] (fun i => ∃ k : Nat, k ≤ s.size ∧ i = .int .i64 k ∧ Hid (gapL false ((bl s).drop k) = T)) (fun i => s.size - (intOf i).toNat)
  case atStart => exact ⟨a, ha, rfl, hT⟩
  case round =>
    clear hT
    obtain ⟨k, hk, rfl, hT⟩ := hrel
    obtain ⟨U, hU⟩ : ∃ U, ((bl s).drop k).dropWhile isB = U := ⟨_, rfl⟩
    obtain ⟨j, hj⟩ : ∃ j, s.size - U.length = j := ⟨_, rfl⟩
    have HE := dw_end hk hU
    rw [hj] at HE
    have SB : ∀ w : World, Tab w → Calls Tryd.prog 23 #[.string s, .int .i64 k, .func (.func 24) #[.int .u8 1] #[]] w fun e w' => e = .returned (.int .i64 j) ∧ w = w' := fun w h => by rw [← hj]; exact scanB_any s k U w h hs hk (Lib.hid hU)
    have hjk := HE.1
    have hjs := HE.2.1
    have HG : Hid (gapL false ((bl s).drop j) = T) := Lib.hid (by rw [HE.2.2.1, ← hU, gapL_blank]; exact hT.out)
    have HB : Hid (∀ d, ((bl s).drop j).head? = some d → isB d = false) := Lib.hid (by rw [HE.2.2.1, ← hU]; exact dropW_head _)
    clear hU hj HE hT
    by_cases hlt : j < s.size
    rotate_left
    · have hjs' : ((j : Int) == s.size) = true := by simp; omega
      have E : Hid (s.size - T.length = j) := Lib.hid (by
        have e : j = s.size := by omega
        have := HG.out
        rw [e, bl_end] at this
        rw [← this]
        exact e.symm)
      go_wp2_with (go_at_call 23; refine (SB _ hTab).mono ?_; rintro e w' ⟨rfl, rfl⟩)
      go_ret
      exact ⟨ret_int (by rw [E.out]), rfl⟩
    · have D := Lib.hid (bl_drop s j hlt)
      have hjs' : ((j : Int) == s.size) = false := by simp; omega
      have hb := UInt8.toNat_lt s[j]
      obtain ⟨q, hq⟩ : ∃ q, noH s[j] = q := ⟨_, rfl⟩
      have KC : ∀ w : World, Tab w → Calls Tryd.prog 25 #[.int .u8 4, .int .u8 (s[j].toNat : Int)] w fun e w' => e = .returned (.bool q) ∧ w = w' := fun w h => by rw [← hq]; exact incH_any _ w h
      have HQ := Lib.hid hq
      clear hq
      have H5 : Hid (kd s[j] ≠ 5) := Lib.hid (by
        have := HB.out s[j] (by rw [D.out]; rfl)
        simpa [isB] using this)
      cases q with
      | true =>
        have E : Hid (s.size - T.length = j) := Lib.hid (by
          have h0 := HG.out
          have h6 : kd s[j] ≠ 6 := by have := HQ.out; simpa [noH] using this
          rw [D.out, gapL_fix ⟨H5.out, h6⟩, ← D.out] at h0
          rw [← h0, List.length_drop, bl_len]
          omega)
        go_wp2_with (first | (go_at_call 23; refine (SB _ hTab).mono ?_; rintro e w' ⟨rfl, rfl⟩) | (go_at_call 25; refine (KC _ hTab).mono ?_; rintro e w' ⟨rfl, rfl⟩))
        go_ret
        exact ⟨ret_int (by rw [E.out]), rfl⟩
      | false =>
        have h6 : kd s[j] = 6 := by have := HQ.out; simpa [noH] using this
        have h10 : isC s[j] = true := by
          simp only [isC, bne_iff_ne, ne_eq]
          intro e
          rw [e, kd10] at h6
          cases h6
        obtain ⟨V, hV⟩ : ∃ V, ((bl s).drop j).dropWhile isC = V := ⟨_, rfl⟩
        obtain ⟨i, hi⟩ : ∃ i, s.size - V.length = i := ⟨_, rfl⟩
        have HE := dw_end (by omega) hV
        rw [hi] at HE
        have SC : ∀ w : World, Tab w → Calls Tryd.prog 23 #[.string s, .int .i64 j, .func (.func 25) #[.int .u8 2] #[]] w fun e w' => e = .returned (.int .i64 i) ∧ w = w' := fun w h => by rw [← hi]; exact scanC_any s j V w h hs (by omega) (Lib.hid hV)
        have HT2 : Hid (gapL false ((bl s).drop i) = T) := Lib.hid (by
          rw [HE.2.2.1, ← hV, gapL_note]
          have h0 := HG.out
          rw [D.out] at h0 ⊢
          simp only [gapL] at h0 ⊢
          rw [if_neg H5.out, if_pos h6] at h0
          rw [show (s[j] != 10) = true from h10]
          exact h0)
        have hij : j < i := by
          have h2 : ((bl s).drop j).dropWhile isC = ((bl s).drop (j + 1)).dropWhile isC := by rw [D.out, List.dropWhile_cons, if_pos h10]
          have h3 := (dw_end (T := V) (show j + 1 ≤ s.size by omega) (by rw [← h2]; exact hV)).1
          omega
        have his := HE.2.1
        clear hV hi HE h6 h10 HG HB
        go_wp2_with (first | (go_at_call 23; first | (with_reducible refine (SB _ hTab).mono ?_; rintro e w' ⟨rfl, rfl⟩) | (with_reducible refine (SC _ hTab).mono ?_; rintro e w' ⟨rfl, rfl⟩)) | (go_at_call 25; refine (KC _ hTab).mono ?_; rintro e w' ⟨rfl, rfl⟩))
        exact ⟨⟨i, by omega, rfl, HT2⟩, by simp [intOf]; omega⟩
end Go.Proofs.YtfimejmmcfdgaaaDoor
