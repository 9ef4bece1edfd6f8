/- Contracts of the reference of layer 10: Kind, gap, run. Condition: the text has at most 30000 bytes. -/
import Derived.Test.YtfimejmmcfdgaaaDoorLxB
import Derived.Test.YtfimejmmcfdgaaaDoorRgf
namespace Go.Proofs.YtfimejmmcfdgaaaDoor
open Go.ChangeShapes Go.WideShapes Go.ChangeAt Go.RowKit
set_option linter.unusedVariables false
set_option linter.unusedSimpArgs false
set_option maxRecDepth 100000
/-- The class of a byte, by its number. -/
def kdI (n : Int) : Int :=
  if (65 ≤ n ∧ n ≤ 90) ∨ (97 ≤ n ∧ n ≤ 122) then 1 else if 48 ≤ n ∧ n ≤ 57 then 2 else if n = 95 then 3 else if n = 40 ∨ n = 41 ∨ n = 123 ∨ n = 125 ∨ n = 59 ∨ n = 44 then 4 else if n = 32 ∨ n = 9 ∨ n = 10 ∨ n = 13 then 5 else if n = 35 then 6 else if n = 45 then 7 else 0
theorem kdI_is (c : UInt8) : kdI c.toNat = kd c := by
  have h : ∀ k < 256, kdI ((UInt8.ofNat k).toNat) = kd (UInt8.ofNat k) := by decide +kernel
  have := h c.toNat c.toNat_lt
  rwa [UInt8.ofNat_toNat] at this
set_option maxHeartbeats 4000000 in
theorem kind_any (n : Int) (w : World) (h0 : 0 ≤ n) (h1 : n ≤ 255) :
    Calls Tryd.prog 22 #[.int .u8 n] w fun e w' => e = .returned (.int .i64 (kdI n)) ∧ w = w' := by
  go_enter Tryd.func22, Tryd.ntmps22
  go_wp2
  all_goals
    go_ret
    refine ⟨ret_int ?_, rfl⟩
    try simp only [beq_eq_false_iff_ne, ne_eq, beq_iff_eq] at *
    unfold kdI
    (repeat' split) <;> omega
/-- The bytes of a text. -/
def bl (s : ByteArray) : Bs := s.data.toList
theorem bl_len (s : ByteArray) : (bl s).length = s.size := by unfold bl; rw [Array.length_toList]; rfl
theorem bl_drop (s : ByteArray) (k : Nat) (h : k < s.size) : (bl s).drop k = s[k] :: (bl s).drop (k + 1) := by
  have h' : k < (bl s).length := by rw [bl_len]; exact h
  rw [List.drop_eq_getElem_cons h']
  rfl
theorem bl_end (s : ByteArray) : (bl s).drop s.size = [] := by rw [← bl_len]; exact List.drop_length
set_option maxHeartbeats 4000000 in
theorem gap_any (s : ByteArray) (a : Nat) (T : Bs) (w : World) (hs : s.size ≤ 30000) (ha : a ≤ s.size) (hT : Hid (gapL false ((bl s).drop a) = T)) :
    Calls Tryd.prog 20 #[.string s, .int .i64 a] w fun e w' => e = .returned (.int .i64 (s.size - T.length : Nat)) ∧ w = w' := by
  go_enter Tryd.func20, Tryd.ntmps20
  go_wp2
  go_loop [1] (fun i => ∃ k : Nat, k ≤ s.size ∧ i = .int .i64 k ∧ Hid (gapL false ((bl s).drop k) = T)) (fun i => s.size - (intOf i).toNat)
  case atStart => exact ⟨a, ha, rfl, hT⟩
  case round =>
    clear hT
    obtain ⟨k, hk, rfl, hT⟩ := hrel
    by_cases hlt : k < s.size
    rotate_left
    · have hlt' : ¬ (k : Int) < s.size := by omega
      have E : Hid (s.size - T.length = k) := by
        have : k = s.size := by omega
        subst this
        have := hT.out
        rw [bl_end] at this
        rw [← this]
        exact Lib.hid rfl
      go_wp2
      go_ret
      exact ⟨ret_int (by rw [E.out]), rfl⟩
    · have D := Lib.hid (bl_drop s k hlt)
      have hb := UInt8.toNat_lt s[k]
      obtain ⟨q, hq⟩ : ∃ q, kdI s[k].toNat = q := ⟨_, rfl⟩
      have KC : ∀ w : World, Calls Tryd.prog 22 #[.int .u8 (s[k].toNat : Int)] w fun e w' => e = .returned (.int .i64 q) ∧ w = w' := fun w => by rw [← hq]; exact kind_any _ w (by omega) (by omega)
      have HQ : Hid ((kd s[k] : Int) = q) := Lib.hid (by rw [← hq, kdI_is])
      clear hq
      by_cases h5 : q = 5
      · have HN : Hid (gapL false ((bl s).drop (k + 1)) = T) := Lib.hid (by
          have := hT.out
          rw [D.out] at this
          simp only [gapL] at this
          rwa [if_pos (by have := HQ.out; omega)] at this)
        subst h5
        go_wp2_with (go_at_call 22; refine (KC _).mono ?_; rintro e w' ⟨rfl, rfl⟩)
        exact ⟨⟨k + 1, by omega, by go_num, HN⟩, by simp [intOf]; omega⟩
      · have h5' : (q == 5) = false := by simpa using h5
        by_cases h6 : q = 6
        · have HN : Hid (gapL true ((bl s).drop k) = T) := Lib.hid (by
            have h0 := hT.out
            have hq := HQ.out
            have h10 : s[k] ≠ 10 := fun e => by rw [e, kd10] at hq; omega
            rw [D.out] at h0 ⊢
            simp only [gapL] at h0 ⊢
            rw [if_neg (by omega), if_pos (by omega)] at h0
            rw [show (s[k] != 10) = true by simpa using h10]
            exact h0)
          subst h6
          go_wp2_with (go_at_call 22; refine (KC _).mono ?_; rintro e w' ⟨rfl, rfl⟩)
          have H10 : Hid (s[k] ≠ 10) := Lib.hid (fun e => by have hq := HQ.out; rw [e, kd10] at hq; omega)
          clear hT D HQ KC hb
          go_loop [1] (fun i => ∃ j : Nat, k ≤ j ∧ j ≤ s.size ∧ i = .int .i64 j ∧ Hid (gapL true ((bl s).drop j) = T)) (fun i => s.size - (intOf i).toNat)
          case atStart => exact ⟨k, Nat.le_refl _, hk, rfl, HN⟩
          case round =>
            clear HN
            obtain ⟨j, hkj, hj, rfl, hT⟩ := hrel
            by_cases hjt : j < s.size
            rotate_left
            · have hlt' : ¬ (j : Int) < s.size := by omega
              have HE : Hid (gapL false ((bl s).drop j) = T) := Lib.hid (by
                have : j = s.size := by omega
                subst this
                have := hT.out
                rw [bl_end] at this ⊢
                rw [← this]
                rfl)
              go_wp2
              exact ⟨⟨j, by omega, rfl, HE⟩, by simp [intOf]; omega⟩
            · have D := Lib.hid (bl_drop s j hjt)
              have hb := UInt8.toNat_lt s[j]
              by_cases h10 : s[j] = 10
              · have e10 : (((s[j].toNat : Nat) : Int) != 10) = false := by rw [h10]; rfl
                have HE : Hid (gapL false ((bl s).drop j) = T) := Lib.hid (by
                  have := hT.out
                  rw [D.out, h10] at this ⊢
                  simp only [gapL] at this ⊢
                  rw [if_pos kd10]
                  exact this)
                have hkj' : k < j := by
                  rcases Nat.lt_or_ge k j with h | h
                  · exact h
                  · have : j = k := by omega
                    subst this
                    exact absurd h10 H10.out
                clear h10
                go_wp2
                exact ⟨⟨j, by omega, rfl, HE⟩, by simp [intOf]; omega⟩
              · have e10 : (((s[j].toNat : Nat) : Int) != 10) = true := by
                  have : s[j].toNat ≠ 10 := fun e => h10 (UInt8.toNat_inj.1 e)
                  simp only [bne_iff_ne, ne_eq]
                  omega
                have HE : Hid (gapL true ((bl s).drop (j + 1)) = T) := Lib.hid (by
                  have := hT.out
                  rw [D.out] at this
                  simp only [gapL] at this
                  rwa [show (s[j] != 10) = true by simpa using h10] at this)
                clear h10
                go_wp2
                exact ⟨⟨j + 1, by omega, by omega, by go_num, HE⟩, by simp [intOf]; omega⟩
        · have h6' : (q == 6) = false := by simpa using h6
          have E : Hid (s.size - T.length = k) := Lib.hid (by
            have h0 := hT.out
            have hq := HQ.out
            rw [D.out, gapL_fix ⟨by omega, by omega⟩, ← D.out] at h0
            rw [← h0, List.length_drop, bl_len]
            omega)
          go_wp2_with (go_at_call 22; refine (KC _).mono ?_; rintro e w' ⟨rfl, rfl⟩)
          go_ret
          exact ⟨ret_int (by rw [E.out]), rfl⟩
end Go.Proofs.YtfimejmmcfdgaaaDoor
