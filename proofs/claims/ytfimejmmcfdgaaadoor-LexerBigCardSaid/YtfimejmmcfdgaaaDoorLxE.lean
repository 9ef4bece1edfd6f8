/- Contract of the reference of layer 10: one. Condition: the text has at most 30000 bytes. -/
import Derived.Test.YtfimejmmcfdgaaaDoorLxD
namespace Go.Proofs.YtfimejmmcfdgaaaDoor
open Go.ChangeShapes Go.WideShapes Go.ChangeAt Go.RowKit
set_option linter.unusedVariables false
set_option linter.unusedSimpArgs false
set_option maxRecDepth 100000
theorem bl_sub (s : ByteArray) (a e : Nat) : bl (s.extract a e) = ((bl s).drop a).take (e - a) := by
  unfold bl
  rw [ByteArray.data_extract, Array.toList_extract, List.extract_eq_take_drop]
theorem dw_end {s : ByteArray} {j : Nat} {p : UInt8 → Bool} {T : Bs} (hj : j ≤ s.size) (h : ((bl s).drop j).dropWhile p = T) : j ≤ s.size - T.length ∧ s.size - T.length ≤ s.size ∧ (bl s).drop (s.size - T.length) = T ∧ ((bl s).drop j).takeWhile p = ((bl s).drop j).take (s.size - T.length - j) := by
  have e := takeW_of (p := p) ((bl s).drop j)
  rw [h] at e
  have el := congrArg List.length e
  rw [List.length_drop, bl_len, List.length_append] at el
  refine ⟨by omega, by omega, ?_, ?_⟩
  · have h2 := congrArg (List.drop (((bl s).drop j).takeWhile p).length) e
    rw [List.drop_left, List.drop_drop] at h2
    rw [show s.size - T.length = j + (((bl s).drop j).takeWhile p).length by omega]
    exact h2
  · have h2 := congrArg (List.take (((bl s).drop j).takeWhile p).length) e
    rw [List.take_left] at h2
    rw [show s.size - T.length - j = (((bl s).drop j).takeWhile p).length by omega]
    exact h2.symm
set_option maxHeartbeats 4000000 in
theorem one_word (s : ByteArray) (a : Nat) (w : World) (hs : s.size ≤ 30000) (ha : a < s.size) (hq : kd s[a] = 1) (z : Nat) (T : Bs) (hT : Hid (((bl s).drop a).dropWhile isW = T)) (he : Hid (s.size - T.length = z)) :
    Calls Tryd.prog 21 #[.string s, .int .i64 a] w fun e w' => e = .returned (.tuple #[.agg #[.int .i64 1, .string (s.extract a z), .int .i64 a], .int .i64 z, .bool true]) ∧ Below w.heap.size w w' := by
  have hb := UInt8.toNat_lt s[a]
  have KC : ∀ w : World, Calls Tryd.prog 22 #[.int .u8 (s[a].toNat : Int)] w fun e w' => e = .returned (.int .i64 1) ∧ w = w' := fun w => by have := kind_any s[a].toNat w (by omega) (by omega); rw [kdI_is] at this; rwa [hq] at this
  have HE := dw_end (by omega) hT.out
  have RC := fun w => runW_any s a T w hs (by omega) hT
  rw [he.out] at HE RC
  have h1 := HE.1
  have h2 := HE.2.1
  clear HE hq hT he
  go_enter Tryd.func21, Tryd.ntmps21
  go_wp2_with (first | (go_at_call 22; refine (KC _).mono ?_; rintro e' w' ⟨rfl, rfl⟩) | (go_at_call 27; refine (RC _).mono ?_; rintro e' w' ⟨rfl, rfl⟩))
  exact bodyPost_ret (v := .tuple #[.agg #[.int .i64 1, .string (s.extract a z), .int .i64 a], .int .i64 z, .bool true]) (by simp [results, Tryd.results21, go_sem]) rfl ⟨rfl, (Below.refl _ _).alloc (Nat.le_refl _) _⟩
set_option maxHeartbeats 4000000 in
theorem one_sign (s : ByteArray) (a : Nat) (w : World) (hs : s.size ≤ 30000) (ha : a < s.size) (hq : kd s[a] = 4) :
    Calls Tryd.prog 21 #[.string s, .int .i64 a] w fun e w' => e = .returned (.tuple #[.agg #[.int .i64 3, .string (s.extract a (a + 1)), .int .i64 a], .int .i64 ((a : Int) + 1), .bool true]) ∧ Below w.heap.size w w' := by
  have hb := UInt8.toNat_lt s[a]
  have KC : ∀ w : World, Calls Tryd.prog 22 #[.int .u8 (s[a].toNat : Int)] w fun e w' => e = .returned (.int .i64 4) ∧ w = w' := fun w => by have := kind_any s[a].toNat w (by omega) (by omega); rw [kdI_is] at this; rwa [hq] at this
  have sl : ∀ w : World, (Instr.slice 9 (.string s) (some (.int .i64 (a : Int))) (some (.int .i64 ((a : Int) + 1))) none).run Tryd.prog w = .ok (.string (s.extract a (a + 1))) w := fun w => by
    rw [run_slice_string (P := Tryd.prog) w 9 s .i64 .i64 a (a + 1) Tryd.underlying9 (by omega) (by omega) (by omega)]
    rfl
  clear hq
  go_enter Tryd.func21, Tryd.ntmps21
  go_wp2_with (go_at_call 22; refine (KC _).mono ?_; rintro e' w' ⟨rfl, rfl⟩)
  exact bodyPost_ret (v := .tuple #[.agg #[.int .i64 3, .string (s.extract a (a + 1)), .int .i64 a], .int .i64 ((a : Int) + 1), .bool true]) (by simp [results, Tryd.results21, go_sem]) rfl ⟨rfl, (Below.refl _ _).alloc (Nat.le_refl _) _⟩
set_option maxHeartbeats 4000000 in
theorem one_bad0 (s : ByteArray) (a : Nat) (w : World) (hs : s.size ≤ 30000) (ha : a < s.size) (hq : kd s[a] = 0) :
    Calls Tryd.prog 21 #[.string s, .int .i64 a] w fun e w' => e = .returned (.tuple #[.agg #[.int .i64 0, .string ⟨#[]⟩, .int .i64 0], .int .i64 0, .bool false]) ∧ Below w.heap.size w w' := by
  have hb := UInt8.toNat_lt s[a]
  have KC : ∀ w : World, Calls Tryd.prog 22 #[.int .u8 (s[a].toNat : Int)] w fun e w' => e = .returned (.int .i64 0) ∧ w = w' := fun w => by have := kind_any s[a].toNat w (by omega) (by omega); rw [kdI_is] at this; rwa [hq] at this
  clear hq
  go_enter Tryd.func21, Tryd.ntmps21
  go_wp2_with (go_at_call 22; refine (KC _).mono ?_; rintro e' w' ⟨rfl, rfl⟩)
  exact bodyPost_ret (v := .tuple #[.agg #[.int .i64 0, .string ⟨#[]⟩, .int .i64 0], .int .i64 0, .bool false]) (by simp [results, Tryd.results21, go_sem]) rfl ⟨rfl, (Below.refl _ _).alloc (Nat.le_refl _) _⟩
set_option maxHeartbeats 4000000 in
theorem one_bad3 (s : ByteArray) (a : Nat) (w : World) (hs : s.size ≤ 30000) (ha : a < s.size) (hq : kd s[a] = 3) :
    Calls Tryd.prog 21 #[.string s, .int .i64 a] w fun e w' => e = .returned (.tuple #[.agg #[.int .i64 0, .string ⟨#[]⟩, .int .i64 0], .int .i64 0, .bool false]) ∧ Below w.heap.size w w' := by
  have hb := UInt8.toNat_lt s[a]
  have KC : ∀ w : World, Calls Tryd.prog 22 #[.int .u8 (s[a].toNat : Int)] w fun e w' => e = .returned (.int .i64 3) ∧ w = w' := fun w => by have := kind_any s[a].toNat w (by omega) (by omega); rw [kdI_is] at this; rwa [hq] at this
  clear hq
  go_enter Tryd.func21, Tryd.ntmps21
  go_wp2_with (go_at_call 22; refine (KC _).mono ?_; rintro e' w' ⟨rfl, rfl⟩)
  exact bodyPost_ret (v := .tuple #[.agg #[.int .i64 0, .string ⟨#[]⟩, .int .i64 0], .int .i64 0, .bool false]) (by simp [results, Tryd.results21, go_sem]) rfl ⟨rfl, (Below.refl _ _).alloc (Nat.le_refl _) _⟩
set_option maxHeartbeats 4000000 in
theorem one_bad5 (s : ByteArray) (a : Nat) (w : World) (hs : s.size ≤ 30000) (ha : a < s.size) (hq : kd s[a] = 5) :
    Calls Tryd.prog 21 #[.string s, .int .i64 a] w fun e w' => e = .returned (.tuple #[.agg #[.int .i64 0, .string ⟨#[]⟩, .int .i64 0], .int .i64 0, .bool false]) ∧ Below w.heap.size w w' := by
  have hb := UInt8.toNat_lt s[a]
  have KC : ∀ w : World, Calls Tryd.prog 22 #[.int .u8 (s[a].toNat : Int)] w fun e w' => e = .returned (.int .i64 5) ∧ w = w' := fun w => by have := kind_any s[a].toNat w (by omega) (by omega); rw [kdI_is] at this; rwa [hq] at this
  clear hq
  go_enter Tryd.func21, Tryd.ntmps21
  go_wp2_with (go_at_call 22; refine (KC _).mono ?_; rintro e' w' ⟨rfl, rfl⟩)
  exact bodyPost_ret (v := .tuple #[.agg #[.int .i64 0, .string ⟨#[]⟩, .int .i64 0], .int .i64 0, .bool false]) (by simp [results, Tryd.results21, go_sem]) rfl ⟨rfl, (Below.refl _ _).alloc (Nat.le_refl _) _⟩
set_option maxHeartbeats 4000000 in
theorem one_bad6 (s : ByteArray) (a : Nat) (w : World) (hs : s.size ≤ 30000) (ha : a < s.size) (hq : kd s[a] = 6) :
    Calls Tryd.prog 21 #[.string s, .int .i64 a] w fun e w' => e = .returned (.tuple #[.agg #[.int .i64 0, .string ⟨#[]⟩, .int .i64 0], .int .i64 0, .bool false]) ∧ Below w.heap.size w w' := by
  have hb := UInt8.toNat_lt s[a]
  have KC : ∀ w : World, Calls Tryd.prog 22 #[.int .u8 (s[a].toNat : Int)] w fun e w' => e = .returned (.int .i64 6) ∧ w = w' := fun w => by have := kind_any s[a].toNat w (by omega) (by omega); rw [kdI_is] at this; rwa [hq] at this
  clear hq
  go_enter Tryd.func21, Tryd.ntmps21
  go_wp2_with (go_at_call 22; refine (KC _).mono ?_; rintro e' w' ⟨rfl, rfl⟩)
  exact bodyPost_ret (v := .tuple #[.agg #[.int .i64 0, .string ⟨#[]⟩, .int .i64 0], .int .i64 0, .bool false]) (by simp [results, Tryd.results21, go_sem]) rfl ⟨rfl, (Below.refl _ _).alloc (Nat.le_refl _) _⟩
set_option maxHeartbeats 4000000 in
theorem one_num2_bad (s : ByteArray) (a : Nat) (w : World) (hs : s.size ≤ 30000) (ha : a < s.size) (hq : kd s[a] = 2) (z : Nat) (T : Bs) (hT : Hid (((bl s).drop (a + 1)).dropWhile isD = T)) (he : Hid (s.size - T.length = z)) (hn : Hid (numL (bl (s.extract a z)) = false)) :
    Calls Tryd.prog 21 #[.string s, .int .i64 a] w fun e w' => e = .returned (.tuple #[.agg #[.int .i64 0, .string ⟨#[]⟩, .int .i64 0], .int .i64 0, .bool false]) ∧ Below w.heap.size w w' := by
  have hb := UInt8.toNat_lt s[a]
  have KC : ∀ w : World, Calls Tryd.prog 22 #[.int .u8 (s[a].toNat : Int)] w fun e w' => e = .returned (.int .i64 2) ∧ w = w' := fun w => by have := kind_any s[a].toNat w (by omega) (by omega); rw [kdI_is] at this; rwa [hq] at this
  have HE := dw_end (by omega) hT.out
  rw [he.out] at HE
  have h1 : a < z := by have := HE.1; omega
  have h3 : a ≤ z := by omega
  have h2 := HE.2.1
  have hx : (s.extract a z).size = z - a := by rw [ByteArray.size_extract]; omega
  have RC : ∀ w : World, Calls Tryd.prog 27 #[.string s, .int .i64 a, .int .i64 2] w fun e w' => e = .returned (.int .i64 z) ∧ w = w' := fun w => by rw [← he.out]; exact runD_any s a T w hs (by omega) (Lib.hid (by rw [bl_drop s a ha, List.dropWhile_cons, if_pos (by simp [isD, hq])]; exact hT.out))
  have NC : ∀ w : World, Calls Tryd.prog 28 #[.string (s.extract a z)] w fun e w' => e = .returned (.bool false) ∧ w = w' := fun w => by rw [← hn.out]; exact number_any _ w (by omega) (by omega)
  clear HE hq hT he hn hx
  go_enter Tryd.func21, Tryd.ntmps21
  go_wp2_with (first | (go_at_call 22; first | (with_reducible refine (KC _).mono ?_; rintro e' w' ⟨rfl, rfl⟩)) | (go_at_call 27; refine (RC _).mono ?_; rintro e' w' ⟨rfl, rfl⟩) | (go_at_call 28; refine (NC _).mono ?_; rintro e' w' ⟨rfl, rfl⟩))
  exact bodyPost_ret (v := .tuple #[.agg #[.int .i64 0, .string ⟨#[]⟩, .int .i64 0], .int .i64 0, .bool false]) (by simp [results, Tryd.results21, go_sem]) rfl ⟨rfl, (Below.refl _ _).alloc (Nat.le_refl _) _⟩
set_option maxHeartbeats 4000000 in
theorem one_num2_end (s : ByteArray) (a : Nat) (w : World) (hs : s.size ≤ 30000) (ha : a < s.size) (hq : kd s[a] = 2) (z : Nat) (T : Bs) (hT : Hid (((bl s).drop (a + 1)).dropWhile isD = T)) (he : Hid (s.size - T.length = z)) (hn : Hid (numL (bl (s.extract a z)) = true)) (hz : z = s.size) :
    Calls Tryd.prog 21 #[.string s, .int .i64 a] w fun e w' => e = .returned (.tuple #[.agg #[.int .i64 2, .string (s.extract a z), .int .i64 a], .int .i64 z, .bool true]) ∧ Below w.heap.size w w' := by
  have hb := UInt8.toNat_lt s[a]
  have KC : ∀ w : World, Calls Tryd.prog 22 #[.int .u8 (s[a].toNat : Int)] w fun e w' => e = .returned (.int .i64 2) ∧ w = w' := fun w => by have := kind_any s[a].toNat w (by omega) (by omega); rw [kdI_is] at this; rwa [hq] at this
  have HE := dw_end (by omega) hT.out
  rw [he.out] at HE
  have h1 : a < z := by have := HE.1; omega
  have h3 : a ≤ z := by omega
  have h2 := HE.2.1
  have hx : (s.extract a z).size = z - a := by rw [ByteArray.size_extract]; omega
  have RC : ∀ w : World, Calls Tryd.prog 27 #[.string s, .int .i64 a, .int .i64 2] w fun e w' => e = .returned (.int .i64 z) ∧ w = w' := fun w => by rw [← he.out]; exact runD_any s a T w hs (by omega) (Lib.hid (by rw [bl_drop s a ha, List.dropWhile_cons, if_pos (by simp [isD, hq])]; exact hT.out))
  have NC : ∀ w : World, Calls Tryd.prog 28 #[.string (s.extract a z)] w fun e w' => e = .returned (.bool true) ∧ w = w' := fun w => by rw [← hn.out]; exact number_any _ w (by omega) (by omega)
  have hz' : s.size ≤ z := by omega
  have hz2 : ¬ z < s.size := by omega
  clear hz
  clear HE hq hT he hn hx
  go_enter Tryd.func21, Tryd.ntmps21
  go_wp2_with (first | (go_at_call 22; first | (with_reducible refine (KC _).mono ?_; rintro e' w' ⟨rfl, rfl⟩)) | (go_at_call 27; refine (RC _).mono ?_; rintro e' w' ⟨rfl, rfl⟩) | (go_at_call 28; refine (NC _).mono ?_; rintro e' w' ⟨rfl, rfl⟩))
  exact bodyPost_ret (v := .tuple #[.agg #[.int .i64 2, .string (s.extract a z), .int .i64 a], .int .i64 z, .bool true]) (by simp [results, Tryd.results21, go_sem]) rfl ⟨rfl, (Below.refl _ _).alloc (Nat.le_refl _) _⟩
set_option maxHeartbeats 4000000 in
theorem one_num2_w1 (s : ByteArray) (a : Nat) (w : World) (hs : s.size ≤ 30000) (ha : a < s.size) (hq : kd s[a] = 2) (z : Nat) (T : Bs) (hT : Hid (((bl s).drop (a + 1)).dropWhile isD = T)) (he : Hid (s.size - T.length = z)) (hn : Hid (numL (bl (s.extract a z)) = true)) (hz : z < s.size) (hk : kd s[z] = 1) :
    Calls Tryd.prog 21 #[.string s, .int .i64 a] w fun e w' => e = .returned (.tuple #[.agg #[.int .i64 0, .string ⟨#[]⟩, .int .i64 0], .int .i64 0, .bool false]) ∧ Below w.heap.size w w' := by
  have hb := UInt8.toNat_lt s[a]
  have KC : ∀ w : World, Calls Tryd.prog 22 #[.int .u8 (s[a].toNat : Int)] w fun e w' => e = .returned (.int .i64 2) ∧ w = w' := fun w => by have := kind_any s[a].toNat w (by omega) (by omega); rw [kdI_is] at this; rwa [hq] at this
  have HE := dw_end (by omega) hT.out
  rw [he.out] at HE
  have h1 : a < z := by have := HE.1; omega
  have h3 : a ≤ z := by omega
  have h2 := HE.2.1
  have hx : (s.extract a z).size = z - a := by rw [ByteArray.size_extract]; omega
  have RC : ∀ w : World, Calls Tryd.prog 27 #[.string s, .int .i64 a, .int .i64 2] w fun e w' => e = .returned (.int .i64 z) ∧ w = w' := fun w => by rw [← he.out]; exact runD_any s a T w hs (by omega) (Lib.hid (by rw [bl_drop s a ha, List.dropWhile_cons, if_pos (by simp [isD, hq])]; exact hT.out))
  have NC : ∀ w : World, Calls Tryd.prog 28 #[.string (s.extract a z)] w fun e w' => e = .returned (.bool true) ∧ w = w' := fun w => by rw [← hn.out]; exact number_any _ w (by omega) (by omega)
  have hbz := UInt8.toNat_lt s[z]
  have KE : ∀ w : World, Calls Tryd.prog 22 #[.int .u8 (s[z].toNat : Int)] w fun e w' => e = .returned (.int .i64 1) ∧ w = w' := fun w => by have := kind_any s[z].toNat w (by omega) (by omega); rw [kdI_is] at this; rwa [hk] at this
  clear hk
  clear HE hq hT he hn hx
  go_enter Tryd.func21, Tryd.ntmps21
  go_wp2_with (first | (go_at_call 22; first | (with_reducible refine (KC _).mono ?_; rintro e' w' ⟨rfl, rfl⟩) | (with_reducible refine (KE _).mono ?_; rintro e' w' ⟨rfl, rfl⟩)) | (go_at_call 27; refine (RC _).mono ?_; rintro e' w' ⟨rfl, rfl⟩) | (go_at_call 28; refine (NC _).mono ?_; rintro e' w' ⟨rfl, rfl⟩))
  exact bodyPost_ret (v := .tuple #[.agg #[.int .i64 0, .string ⟨#[]⟩, .int .i64 0], .int .i64 0, .bool false]) (by simp [results, Tryd.results21, go_sem]) rfl ⟨rfl, (Below.refl _ _).alloc (Nat.le_refl _) _⟩
set_option maxHeartbeats 4000000 in
theorem one_num2_w3 (s : ByteArray) (a : Nat) (w : World) (hs : s.size ≤ 30000) (ha : a < s.size) (hq : kd s[a] = 2) (z : Nat) (T : Bs) (hT : Hid (((bl s).drop (a + 1)).dropWhile isD = T)) (he : Hid (s.size - T.length = z)) (hn : Hid (numL (bl (s.extract a z)) = true)) (hz : z < s.size) (hk : kd s[z] = 3) :
    Calls Tryd.prog 21 #[.string s, .int .i64 a] w fun e w' => e = .returned (.tuple #[.agg #[.int .i64 0, .string ⟨#[]⟩, .int .i64 0], .int .i64 0, .bool false]) ∧ Below w.heap.size w w' := by
  have hb := UInt8.toNat_lt s[a]
  have KC : ∀ w : World, Calls Tryd.prog 22 #[.int .u8 (s[a].toNat : Int)] w fun e w' => e = .returned (.int .i64 2) ∧ w = w' := fun w => by have := kind_any s[a].toNat w (by omega) (by omega); rw [kdI_is] at this; rwa [hq] at this
  have HE := dw_end (by omega) hT.out
  rw [he.out] at HE
  have h1 : a < z := by have := HE.1; omega
  have h3 : a ≤ z := by omega
  have h2 := HE.2.1
  have hx : (s.extract a z).size = z - a := by rw [ByteArray.size_extract]; omega
  have RC : ∀ w : World, Calls Tryd.prog 27 #[.string s, .int .i64 a, .int .i64 2] w fun e w' => e = .returned (.int .i64 z) ∧ w = w' := fun w => by rw [← he.out]; exact runD_any s a T w hs (by omega) (Lib.hid (by rw [bl_drop s a ha, List.dropWhile_cons, if_pos (by simp [isD, hq])]; exact hT.out))
  have NC : ∀ w : World, Calls Tryd.prog 28 #[.string (s.extract a z)] w fun e w' => e = .returned (.bool true) ∧ w = w' := fun w => by rw [← hn.out]; exact number_any _ w (by omega) (by omega)
  have hbz := UInt8.toNat_lt s[z]
  have KE : ∀ w : World, Calls Tryd.prog 22 #[.int .u8 (s[z].toNat : Int)] w fun e w' => e = .returned (.int .i64 3) ∧ w = w' := fun w => by have := kind_any s[z].toNat w (by omega) (by omega); rw [kdI_is] at this; rwa [hk] at this
  clear hk
  clear HE hq hT he hn hx
  go_enter Tryd.func21, Tryd.ntmps21
  go_wp2_with (first | (go_at_call 22; first | (with_reducible refine (KC _).mono ?_; rintro e' w' ⟨rfl, rfl⟩) | (with_reducible refine (KE _).mono ?_; rintro e' w' ⟨rfl, rfl⟩)) | (go_at_call 27; refine (RC _).mono ?_; rintro e' w' ⟨rfl, rfl⟩) | (go_at_call 28; refine (NC _).mono ?_; rintro e' w' ⟨rfl, rfl⟩))
  exact bodyPost_ret (v := .tuple #[.agg #[.int .i64 0, .string ⟨#[]⟩, .int .i64 0], .int .i64 0, .bool false]) (by simp [results, Tryd.results21, go_sem]) rfl ⟨rfl, (Below.refl _ _).alloc (Nat.le_refl _) _⟩
set_option maxHeartbeats 4000000 in
theorem one_num2_ok (s : ByteArray) (a : Nat) (w : World) (hs : s.size ≤ 30000) (ha : a < s.size) (hq : kd s[a] = 2) (z : Nat) (T : Bs) (hT : Hid (((bl s).drop (a + 1)).dropWhile isD = T)) (he : Hid (s.size - T.length = z)) (hn : Hid (numL (bl (s.extract a z)) = true)) (hz : z < s.size) (hk : kd s[z] ≠ 1 ∧ kd s[z] ≠ 3) :
    Calls Tryd.prog 21 #[.string s, .int .i64 a] w fun e w' => e = .returned (.tuple #[.agg #[.int .i64 2, .string (s.extract a z), .int .i64 a], .int .i64 z, .bool true]) ∧ Below w.heap.size w w' := by
  have hb := UInt8.toNat_lt s[a]
  have KC : ∀ w : World, Calls Tryd.prog 22 #[.int .u8 (s[a].toNat : Int)] w fun e w' => e = .returned (.int .i64 2) ∧ w = w' := fun w => by have := kind_any s[a].toNat w (by omega) (by omega); rw [kdI_is] at this; rwa [hq] at this
  have HE := dw_end (by omega) hT.out
  rw [he.out] at HE
  have h1 : a < z := by have := HE.1; omega
  have h3 : a ≤ z := by omega
  have h2 := HE.2.1
  have hx : (s.extract a z).size = z - a := by rw [ByteArray.size_extract]; omega
  have RC : ∀ w : World, Calls Tryd.prog 27 #[.string s, .int .i64 a, .int .i64 2] w fun e w' => e = .returned (.int .i64 z) ∧ w = w' := fun w => by rw [← he.out]; exact runD_any s a T w hs (by omega) (Lib.hid (by rw [bl_drop s a ha, List.dropWhile_cons, if_pos (by simp [isD, hq])]; exact hT.out))
  have NC : ∀ w : World, Calls Tryd.prog 28 #[.string (s.extract a z)] w fun e w' => e = .returned (.bool true) ∧ w = w' := fun w => by rw [← hn.out]; exact number_any _ w (by omega) (by omega)
  obtain ⟨r, hr⟩ : ∃ r : Int, (kd s[z] : Int) = r := ⟨_, rfl⟩
  have r1 : (r == 1) = false := by simp; omega
  have r3 : (r == 3) = false := by simp; omega
  have hbz := UInt8.toNat_lt s[z]
  have KE : ∀ w : World, Calls Tryd.prog 22 #[.int .u8 (s[z].toNat : Int)] w fun e w' => e = .returned (.int .i64 r) ∧ w = w' := fun w => by have := kind_any s[z].toNat w (by omega) (by omega); rw [kdI_is] at this; rwa [hr] at this
  clear hk hr
  clear HE hq hT he hn hx
  go_enter Tryd.func21, Tryd.ntmps21
  go_wp2_with (first | (go_at_call 22; first | (with_reducible refine (KC _).mono ?_; rintro e' w' ⟨rfl, rfl⟩) | (with_reducible refine (KE _).mono ?_; rintro e' w' ⟨rfl, rfl⟩)) | (go_at_call 27; refine (RC _).mono ?_; rintro e' w' ⟨rfl, rfl⟩) | (go_at_call 28; refine (NC _).mono ?_; rintro e' w' ⟨rfl, rfl⟩))
  exact bodyPost_ret (v := .tuple #[.agg #[.int .i64 2, .string (s.extract a z), .int .i64 a], .int .i64 z, .bool true]) (by simp [results, Tryd.results21, go_sem]) rfl ⟨rfl, (Below.refl _ _).alloc (Nat.le_refl _) _⟩
set_option maxHeartbeats 4000000 in
theorem one_num7_bad (s : ByteArray) (a : Nat) (w : World) (hs : s.size ≤ 30000) (ha : a < s.size) (hq : kd s[a] = 7) (z : Nat) (T : Bs) (hT : Hid (((bl s).drop (a + 1)).dropWhile isD = T)) (he : Hid (s.size - T.length = z)) (hn : Hid (numL (bl (s.extract a z)) = false)) :
    Calls Tryd.prog 21 #[.string s, .int .i64 a] w fun e w' => e = .returned (.tuple #[.agg #[.int .i64 0, .string ⟨#[]⟩, .int .i64 0], .int .i64 0, .bool false]) ∧ Below w.heap.size w w' := by
  have hb := UInt8.toNat_lt s[a]
  have KC : ∀ w : World, Calls Tryd.prog 22 #[.int .u8 (s[a].toNat : Int)] w fun e w' => e = .returned (.int .i64 7) ∧ w = w' := fun w => by have := kind_any s[a].toNat w (by omega) (by omega); rw [kdI_is] at this; rwa [hq] at this
  have HE := dw_end (by omega) hT.out
  rw [he.out] at HE
  have h1 : a < z := by have := HE.1; omega
  have h3 : a ≤ z := by omega
  have h2 := HE.2.1
  have hx : (s.extract a z).size = z - a := by rw [ByteArray.size_extract]; omega
  have RC : ∀ w : World, Calls Tryd.prog 27 #[.string s, .int .i64 ((a : Int) + 1), .int .i64 2] w fun e w' => e = .returned (.int .i64 z) ∧ w = w' := fun w => by rw [← he.out]; exact runD_any s (a + 1) T w hs (by omega) hT
  have NC : ∀ w : World, Calls Tryd.prog 28 #[.string (s.extract a z)] w fun e w' => e = .returned (.bool false) ∧ w = w' := fun w => by rw [← hn.out]; exact number_any _ w (by omega) (by omega)
  clear HE hq hT he hn hx
  go_enter Tryd.func21, Tryd.ntmps21
  go_wp2_with (first | (go_at_call 22; first | (with_reducible refine (KC _).mono ?_; rintro e' w' ⟨rfl, rfl⟩)) | (go_at_call 27; refine (RC _).mono ?_; rintro e' w' ⟨rfl, rfl⟩) | (go_at_call 28; refine (NC _).mono ?_; rintro e' w' ⟨rfl, rfl⟩))
  exact bodyPost_ret (v := .tuple #[.agg #[.int .i64 0, .string ⟨#[]⟩, .int .i64 0], .int .i64 0, .bool false]) (by simp [results, Tryd.results21, go_sem]) rfl ⟨rfl, (Below.refl _ _).alloc (Nat.le_refl _) _⟩
set_option maxHeartbeats 4000000 in
theorem one_num7_end (s : ByteArray) (a : Nat) (w : World) (hs : s.size ≤ 30000) (ha : a < s.size) (hq : kd s[a] = 7) (z : Nat) (T : Bs) (hT : Hid (((bl s).drop (a + 1)).dropWhile isD = T)) (he : Hid (s.size - T.length = z)) (hn : Hid (numL (bl (s.extract a z)) = true)) (hz : z = s.size) :
    Calls Tryd.prog 21 #[.string s, .int .i64 a] w fun e w' => e = .returned (.tuple #[.agg #[.int .i64 2, .string (s.extract a z), .int .i64 a], .int .i64 z, .bool true]) ∧ Below w.heap.size w w' := by
  have hb := UInt8.toNat_lt s[a]
  have KC : ∀ w : World, Calls Tryd.prog 22 #[.int .u8 (s[a].toNat : Int)] w fun e w' => e = .returned (.int .i64 7) ∧ w = w' := fun w => by have := kind_any s[a].toNat w (by omega) (by omega); rw [kdI_is] at this; rwa [hq] at this
  have HE := dw_end (by omega) hT.out
  rw [he.out] at HE
  have h1 : a < z := by have := HE.1; omega
  have h3 : a ≤ z := by omega
  have h2 := HE.2.1
  have hx : (s.extract a z).size = z - a := by rw [ByteArray.size_extract]; omega
  have RC : ∀ w : World, Calls Tryd.prog 27 #[.string s, .int .i64 ((a : Int) + 1), .int .i64 2] w fun e w' => e = .returned (.int .i64 z) ∧ w = w' := fun w => by rw [← he.out]; exact runD_any s (a + 1) T w hs (by omega) hT
  have NC : ∀ w : World, Calls Tryd.prog 28 #[.string (s.extract a z)] w fun e w' => e = .returned (.bool true) ∧ w = w' := fun w => by rw [← hn.out]; exact number_any _ w (by omega) (by omega)
  have hz' : s.size ≤ z := by omega
  have hz2 : ¬ z < s.size := by omega
  clear hz
  clear HE hq hT he hn hx
  go_enter Tryd.func21, Tryd.ntmps21
  go_wp2_with (first | (go_at_call 22; first | (with_reducible refine (KC _).mono ?_; rintro e' w' ⟨rfl, rfl⟩)) | (go_at_call 27; refine (RC _).mono ?_; rintro e' w' ⟨rfl, rfl⟩) | (go_at_call 28; refine (NC _).mono ?_; rintro e' w' ⟨rfl, rfl⟩))
  exact bodyPost_ret (v := .tuple #[.agg #[.int .i64 2, .string (s.extract a z), .int .i64 a], .int .i64 z, .bool true]) (by simp [results, Tryd.results21, go_sem]) rfl ⟨rfl, (Below.refl _ _).alloc (Nat.le_refl _) _⟩
set_option maxHeartbeats 4000000 in
theorem one_num7_w1 (s : ByteArray) (a : Nat) (w : World) (hs : s.size ≤ 30000) (ha : a < s.size) (hq : kd s[a] = 7) (z : Nat) (T : Bs) (hT : Hid (((bl s).drop (a + 1)).dropWhile isD = T)) (he : Hid (s.size - T.length = z)) (hn : Hid (numL (bl (s.extract a z)) = true)) (hz : z < s.size) (hk : kd s[z] = 1) :
    Calls Tryd.prog 21 #[.string s, .int .i64 a] w fun e w' => e = .returned (.tuple #[.agg #[.int .i64 0, .string ⟨#[]⟩, .int .i64 0], .int .i64 0, .bool false]) ∧ Below w.heap.size w w' := by
  have hb := UInt8.toNat_lt s[a]
  have KC : ∀ w : World, Calls Tryd.prog 22 #[.int .u8 (s[a].toNat : Int)] w fun e w' => e = .returned (.int .i64 7) ∧ w = w' := fun w => by have := kind_any s[a].toNat w (by omega) (by omega); rw [kdI_is] at this; rwa [hq] at this
  have HE := dw_end (by omega) hT.out
  rw [he.out] at HE
  have h1 : a < z := by have := HE.1; omega
  have h3 : a ≤ z := by omega
  have h2 := HE.2.1
  have hx : (s.extract a z).size = z - a := by rw [ByteArray.size_extract]; omega
  have RC : ∀ w : World, Calls Tryd.prog 27 #[.string s, .int .i64 ((a : Int) + 1), .int .i64 2] w fun e w' => e = .returned (.int .i64 z) ∧ w = w' := fun w => by rw [← he.out]; exact runD_any s (a + 1) T w hs (by omega) hT
  have NC : ∀ w : World, Calls Tryd.prog 28 #[.string (s.extract a z)] w fun e w' => e = .returned (.bool true) ∧ w = w' := fun w => by rw [← hn.out]; exact number_any _ w (by omega) (by omega)
  have hbz := UInt8.toNat_lt s[z]
  have KE : ∀ w : World, Calls Tryd.prog 22 #[.int .u8 (s[z].toNat : Int)] w fun e w' => e = .returned (.int .i64 1) ∧ w = w' := fun w => by have := kind_any s[z].toNat w (by omega) (by omega); rw [kdI_is] at this; rwa [hk] at this
  clear hk
  clear HE hq hT he hn hx
  go_enter Tryd.func21, Tryd.ntmps21
  go_wp2_with (first | (go_at_call 22; first | (with_reducible refine (KC _).mono ?_; rintro e' w' ⟨rfl, rfl⟩) | (with_reducible refine (KE _).mono ?_; rintro e' w' ⟨rfl, rfl⟩)) | (go_at_call 27; refine (RC _).mono ?_; rintro e' w' ⟨rfl, rfl⟩) | (go_at_call 28; refine (NC _).mono ?_; rintro e' w' ⟨rfl, rfl⟩))
  exact bodyPost_ret (v := .tuple #[.agg #[.int .i64 0, .string ⟨#[]⟩, .int .i64 0], .int .i64 0, .bool false]) (by simp [results, Tryd.results21, go_sem]) rfl ⟨rfl, (Below.refl _ _).alloc (Nat.le_refl _) _⟩
set_option maxHeartbeats 4000000 in
theorem one_num7_w3 (s : ByteArray) (a : Nat) (w : World) (hs : s.size ≤ 30000) (ha : a < s.size) (hq : kd s[a] = 7) (z : Nat) (T : Bs) (hT : Hid (((bl s).drop (a + 1)).dropWhile isD = T)) (he : Hid (s.size - T.length = z)) (hn : Hid (numL (bl (s.extract a z)) = true)) (hz : z < s.size) (hk : kd s[z] = 3) :
    Calls Tryd.prog 21 #[.string s, .int .i64 a] w fun e w' => e = .returned (.tuple #[.agg #[.int .i64 0, .string ⟨#[]⟩, .int .i64 0], .int .i64 0, .bool false]) ∧ Below w.heap.size w w' := by
  have hb := UInt8.toNat_lt s[a]
  have KC : ∀ w : World, Calls Tryd.prog 22 #[.int .u8 (s[a].toNat : Int)] w fun e w' => e = .returned (.int .i64 7) ∧ w = w' := fun w => by have := kind_any s[a].toNat w (by omega) (by omega); rw [kdI_is] at this; rwa [hq] at this
  have HE := dw_end (by omega) hT.out
  rw [he.out] at HE
  have h1 : a < z := by have := HE.1; omega
  have h3 : a ≤ z := by omega
  have h2 := HE.2.1
  have hx : (s.extract a z).size = z - a := by rw [ByteArray.size_extract]; omega
  have RC : ∀ w : World, Calls Tryd.prog 27 #[.string s, .int .i64 ((a : Int) + 1), .int .i64 2] w fun e w' => e = .returned (.int .i64 z) ∧ w = w' := fun w => by rw [← he.out]; exact runD_any s (a + 1) T w hs (by omega) hT
  have NC : ∀ w : World, Calls Tryd.prog 28 #[.string (s.extract a z)] w fun e w' => e = .returned (.bool true) ∧ w = w' := fun w => by rw [← hn.out]; exact number_any _ w (by omega) (by omega)
  have hbz := UInt8.toNat_lt s[z]
  have KE : ∀ w : World, Calls Tryd.prog 22 #[.int .u8 (s[z].toNat : Int)] w fun e w' => e = .returned (.int .i64 3) ∧ w = w' := fun w => by have := kind_any s[z].toNat w (by omega) (by omega); rw [kdI_is] at this; rwa [hk] at this
  clear hk
  clear HE hq hT he hn hx
  go_enter Tryd.func21, Tryd.ntmps21
  go_wp2_with (first | (go_at_call 22; first | (with_reducible refine (KC _).mono ?_; rintro e' w' ⟨rfl, rfl⟩) | (with_reducible refine (KE _).mono ?_; rintro e' w' ⟨rfl, rfl⟩)) | (go_at_call 27; refine (RC _).mono ?_; rintro e' w' ⟨rfl, rfl⟩) | (go_at_call 28; refine (NC _).mono ?_; rintro e' w' ⟨rfl, rfl⟩))
  exact bodyPost_ret (v := .tuple #[.agg #[.int .i64 0, .string ⟨#[]⟩, .int .i64 0], .int .i64 0, .bool false]) (by simp [results, Tryd.results21, go_sem]) rfl ⟨rfl, (Below.refl _ _).alloc (Nat.le_refl _) _⟩
set_option maxHeartbeats 4000000 in
theorem one_num7_ok (s : ByteArray) (a : Nat) (w : World) (hs : s.size ≤ 30000) (ha : a < s.size) (hq : kd s[a] = 7) (z : Nat) (T : Bs) (hT : Hid (((bl s).drop (a + 1)).dropWhile isD = T)) (he : Hid (s.size - T.length = z)) (hn : Hid (numL (bl (s.extract a z)) = true)) (hz : z < s.size) (hk : kd s[z] ≠ 1 ∧ kd s[z] ≠ 3) :
    Calls Tryd.prog 21 #[.string s, .int .i64 a] w fun e w' => e = .returned (.tuple #[.agg #[.int .i64 2, .string (s.extract a z), .int .i64 a], .int .i64 z, .bool true]) ∧ Below w.heap.size w w' := by
  have hb := UInt8.toNat_lt s[a]
  have KC : ∀ w : World, Calls Tryd.prog 22 #[.int .u8 (s[a].toNat : Int)] w fun e w' => e = .returned (.int .i64 7) ∧ w = w' := fun w => by have := kind_any s[a].toNat w (by omega) (by omega); rw [kdI_is] at this; rwa [hq] at this
  have HE := dw_end (by omega) hT.out
  rw [he.out] at HE
  have h1 : a < z := by have := HE.1; omega
  have h3 : a ≤ z := by omega
  have h2 := HE.2.1
  have hx : (s.extract a z).size = z - a := by rw [ByteArray.size_extract]; omega
  have RC : ∀ w : World, Calls Tryd.prog 27 #[.string s, .int .i64 ((a : Int) + 1), .int .i64 2] w fun e w' => e = .returned (.int .i64 z) ∧ w = w' := fun w => by rw [← he.out]; exact runD_any s (a + 1) T w hs (by omega) hT
  have NC : ∀ w : World, Calls Tryd.prog 28 #[.string (s.extract a z)] w fun e w' => e = .returned (.bool true) ∧ w = w' := fun w => by rw [← hn.out]; exact number_any _ w (by omega) (by omega)
  obtain ⟨r, hr⟩ : ∃ r : Int, (kd s[z] : Int) = r := ⟨_, rfl⟩
  have r1 : (r == 1) = false := by simp; omega
  have r3 : (r == 3) = false := by simp; omega
  have hbz := UInt8.toNat_lt s[z]
  have KE : ∀ w : World, Calls Tryd.prog 22 #[.int .u8 (s[z].toNat : Int)] w fun e w' => e = .returned (.int .i64 r) ∧ w = w' := fun w => by have := kind_any s[z].toNat w (by omega) (by omega); rw [kdI_is] at this; rwa [hr] at this
  clear hk hr
  clear HE hq hT he hn hx
  go_enter Tryd.func21, Tryd.ntmps21
  go_wp2_with (first | (go_at_call 22; first | (with_reducible refine (KC _).mono ?_; rintro e' w' ⟨rfl, rfl⟩) | (with_reducible refine (KE _).mono ?_; rintro e' w' ⟨rfl, rfl⟩)) | (go_at_call 27; refine (RC _).mono ?_; rintro e' w' ⟨rfl, rfl⟩) | (go_at_call 28; refine (NC _).mono ?_; rintro e' w' ⟨rfl, rfl⟩))
  exact bodyPost_ret (v := .tuple #[.agg #[.int .i64 2, .string (s.extract a z), .int .i64 a], .int .i64 z, .bool true]) (by simp [results, Tryd.results21, go_sem]) rfl ⟨rfl, (Below.refl _ _).alloc (Nat.le_refl _) _⟩
end Go.Proofs.YtfimejmmcfdgaaaDoor
