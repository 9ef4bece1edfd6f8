/- Contract of the reference of layer 5: Touch. Conditions: the slices read as the lists say; the coordinates are bounded as a valid polygon's. -/
import Derived.Test.YtojfonenpplahaaIxR
namespace Go.Proofs.Ytojfonenpplahaa
open Go.ChangeShapes Go.WideShapes Go.ChangeAt Go.RowKit
set_option linter.unusedVariables false
set_option linter.unusedSimpArgs false

theorem con1 {a b : List (Int × Int)} {i j : Nat} (hi : i < a.length) (hj : j < b.length) : isConB a b 1 i j = eeB a b i j := by
  unfold isConB
  rw [if_pos rfl, decide_eq_true (p := 0 ≤ (i : Int) ∧ (i : Int) < (a.length : Int)) ⟨by omega, by omega⟩, decide_eq_true (p := 0 ≤ (j : Int) ∧ (j : Int) < (b.length : Int)) ⟨by omega, by omega⟩, Int.toNat_natCast, Int.toNat_natCast, Bool.true_and, Bool.true_and]
theorem con2 {a b : List (Int × Int)} {i : Nat} (j : Nat) (hi : i < a.length) : isConB a b 2 i j = (decide ((j : Int) = 0) && inC a b i) := by
  unfold isConB
  rw [if_neg (by omega), if_pos rfl, decide_eq_true (p := 0 ≤ (i : Int) ∧ (i : Int) < (a.length : Int)) ⟨by omega, by omega⟩, Int.toNat_natCast, Bool.true_and]
theorem con3 {a b : List (Int × Int)} {j : Nat} (i : Nat) (hj : j < b.length) : isConB a b 3 i j = (decide ((i : Int) = 0) && inC b a j) := by
  unfold isConB
  rw [if_neg (by omega), if_neg (by omega), if_pos rfl, decide_eq_true (p := 0 ≤ (j : Int) ∧ (j : Int) < (b.length : Int)) ⟨by omega, by omega⟩, Int.toNat_natCast, Bool.true_and]
def NoCon (a b : List (Int × Int)) (k : Int) : Prop := ∀ i, i < a.length → ∀ j, j < b.length → isConB a b k (i : Nat) (j : Nat) = false
theorem no1 {a b : List (Int × Int)} (h : NoCon a b 1) : firstI (rowE a b) a.length = -1 := firstI_none fun i hi => rowE_no fun j hj => by rw [← con1 hi hj]; exact h i hi j hj
theorem no2 {a b : List (Int × Int)} (hb : 0 < b.length) (h : NoCon a b 2) : firstI (inC a b) a.length = -1 := firstI_none fun i hi => by
  have := h i hi 0 hb
  rw [con2 0 hi] at this
  simpa using this
theorem no3 {a b : List (Int × Int)} (ha : 0 < a.length) (h : NoCon a b 3) : firstI (inC b a) b.length = -1 := firstI_none fun j hj => by
  have := h 0 ha j hj
  rw [con3 0 hj] at this
  simpa using this
theorem con_none {a b : List (Int × Int)} (ha : 0 < a.length) (hb : 0 < b.length) (h : ∀ k : Nat, 1 ≤ k → k < 4 → NoCon a b k) : conT a b = (0, 0, 0, false) := by
  unfold conT
  rw [no1 (h 1 (by omega) (by omega)), no2 hb (h 2 (by omega) (by omega)), no3 ha (h 3 (by omega) (by omega)), if_neg (by omega), if_neg (by omega), if_neg (by omega)]
theorem con_found {a b : List (Int × Int)} {q i j : Nat} (h1q : 1 ≤ q) (hq : q < 4) (hi : i < a.length) (hj : j < b.length) (h1 : ∀ k : Nat, 1 ≤ k → k < q → NoCon a b k) (h2 : ∀ i', i' < i → ∀ j, j < b.length → isConB a b q (i' : Nat) (j : Nat) = false) (h3 : ∀ j', j' < j → isConB a b q i (j' : Nat) = false) (h : isConB a b q i j = true) : conT a b = ((q : Int), (i : Int), (j : Int), true) := by
  have hb : 0 < b.length := by omega
  have ha : 0 < a.length := by omega
  rcases (by omega : q = 1 ∨ q = 2 ∨ q = 3) with rfl | rfl | rfl
  · have e : eeB a b i j = true := by rw [← con1 hi hj]; exact h
    have r : firstI (rowE a b) a.length = (i : Int) := firstI_some hi (fun i' hi' => rowE_no fun j' hj' => by rw [← con1 (by omega) hj']; exact h2 i' hi' j' hj') (rowE_yes hj e)
    have c : firstI (eeB a b i) b.length = (j : Int) := firstI_some hj (fun j' hj' => by rw [← con1 hi (by omega)]; exact h3 j' hj') e
    unfold conT
    rw [r, if_pos (by omega), Int.toNat_natCast, c]
    rfl
  · have e := h
    rw [show ((2 : Nat) : Int) = 2 from rfl, con2 j hi, Bool.and_eq_true, decide_eq_true_eq] at e
    obtain ⟨rfl⟩ : j = 0 := by omega
    have c : firstI (inC a b) a.length = (i : Int) := firstI_some hi (fun i' hi' => by
      have := h2 i' hi' 0 hj
      rw [show ((2 : Nat) : Int) = 2 from rfl, con2 0 (by omega)] at this
      simpa using this) e.2
    unfold conT
    rw [no1 (h1 1 (by omega) (by omega)), c, if_neg (by omega), if_pos (by omega)]
    rfl
  · have e := h
    rw [show ((3 : Nat) : Int) = 3 from rfl, con3 i hj, Bool.and_eq_true, decide_eq_true_eq] at e
    obtain ⟨rfl⟩ : i = 0 := by omega
    have c : firstI (inC b a) b.length = (j : Int) := firstI_some hj (fun j' hj' => by
      have := h3 j' hj'
      rw [show ((3 : Nat) : Int) = 3 from rfl, con3 0 (by omega)] at this
      simpa using this) e.2
    unfold conT
    rw [no1 (h1 1 (by omega) (by omega)), no2 hb (h1 2 (by omega) (by omega)), c, if_neg (by omega), if_neg (by omega), if_pos (by omega)]
    rfl

set_option maxHeartbeats 8000000 in
theorem touch_is (ao bo : Option Addr) (n m ca cb : Nat) (a b : List (Int × Int)) (k i j : Int) (t : Bool) (w : World) (hn : a.length = n) (hm : b.length = m) (hc : Hid (conT a b = (k, i, j, t))) (h0 : 0 < n) (h0' : 0 < m) (hle : n ≤ 12) (hle' : m ≤ 12) (hA : PRow w ao a) (hB : PRow w bo b) (va : AllV a) (vb : AllV b) :
    Calls Try.prog 27 #[.slice ao n ca, .slice bo m cb] w fun e w' => e = .returned (.tuple #[.agg #[.int .i64 k, .int .i64 i, .int .i64 j], .bool t]) ∧ Below w.heap.size w w' := by
  subst hn hm
  have PA := Lib.hid hA
  have PB := Lib.hid hB
  have VA := Lib.hid va
  have VB := Lib.hid vb
  clear hA hB va vb
  go_enter Try.func27, Try.ntmps27
  go_wp2_with fail
  go_loopw [6] (fun s wr => ∃ q : Nat, 1 ≤ q ∧ q ≤ 4 ∧ s = .int .i64 q ∧ Hid (∀ k : Nat, 1 ≤ k → k < q → NoCon a b k) ∧ Below w.heap.size w wr ∧ wr.heap[w.heap.size]? = some (.cells #[.int .i64 0, .int .i64 0, .int .i64 0] 37 (0, 0))) (fun s _ => 4 - (intOf s).toNat)
  case atStart => exact ⟨1, by omega, by omega, rfl, Lib.hid (fun k h1 h2 => by omega), belA (Below.refl _ _) _, blk_new _ _ _ rfl⟩
  case round =>
    obtain ⟨q, hq1, hq4, rfl, HK, hBq, hXq⟩ := hrel
    by_cases hq : q < 4
    · have hqi : (q : Int) ≤ 3 := by omega
      go_wp2_with fail
      go_loopw [7] (fun s wr => ∃ i : Nat, i ≤ a.length ∧ s = .int .i64 i ∧ Hid (∀ i', i' < i → ∀ j, j < b.length → isConB a b q (i' : Nat) (j : Nat) = false) ∧ Below w.heap.size w wr ∧ wr.heap[w.heap.size]? = some (.cells #[.int .i64 0, .int .i64 0, .int .i64 0] 37 (0, 0))) (fun s _ => a.length - (intOf s).toNat)
      case atStart => exact ⟨0, by omega, rfl, Lib.hid (fun k h1 => by omega), hBq, hXq⟩
      case round =>
        obtain ⟨x, hx, rfl, HI, hBi, hXi⟩ := hrel
        by_cases hxl : x < a.length
        · have hxi : (x : Int) < a.length := by omega
          go_wp2_with fail
          go_loopw [8] (fun s wr => ∃ j : Nat, j ≤ b.length ∧ s = .int .i64 j ∧ Hid (∀ j', j' < j → isConB a b q x (j' : Nat) = false) ∧ Below w.heap.size w wr ∧ wr.heap[w.heap.size]? = some (.cells #[.int .i64 0, .int .i64 0, .int .i64 0] 37 (0, 0))) (fun s _ => b.length - (intOf s).toNat)
          case atStart => exact ⟨0, by omega, rfl, Lib.hid (fun k h1 => by omega), hBi, hXi⟩
          case round =>
            obtain ⟨y, hy, rfl, HJ, hBj, hXj⟩ := hrel
            by_cases hyl : y < b.length
            · have hyi : (y : Int) < b.length := by omega
              obtain ⟨r, hr⟩ : ∃ r, isConB a b q x y = r := ⟨_, rfl⟩
              have HR := Lib.hid hr
              have P1 := Lib.hid (prow_below PA.out hBj)
              have P2 := Lib.hid (prow_below PB.out hBj)
              have BB := Lib.hid hBj
              have XX := Lib.hid hXj
              clear hr hBj hXj hBi hXi hBq hXq
              go_wp2_with fail
              refine (shows_is ao bo a.length b.length ca cb a b (q : Int) (x : Int) (y : Int) r _ rfl rfl HR hle hle' (prow_alloc P1.out _) (prow_alloc P2.out _) VA.out VB.out).mono ?_
              rintro e w1 ⟨rfl, hb⟩
              have B1 := Lib.hid (belT (belA BB.out (.cells #[.int .i64 (q : Int), .int .i64 (x : Int), .int .i64 (y : Int)] 37)) hb)
              have X1 := Lib.hid (blk_call (blk_alloc XX.out (.cells #[.int .i64 (q : Int), .int .i64 (x : Int), .int .i64 (y : Int)] 37)) hb)
              have hZ := blk_call (blk_new wr (.cells #[.int .i64 (q : Int), .int .i64 (x : Int), .int .i64 (y : Int)] 37) _ rfl) hb
              have hne : wr.heap.size ≠ w.heap.size := by have := blk_lt XX.out; omega
              clear hb BB XX P1 P2
              cases r with
              | true =>
                have HE := Lib.hid (con_found hq1 hq hxl hyl HK.out HI.out HJ.out HR.out)
                have hX1 := X1.out
                have z0 := blk_cell hX1 0 _ rfl
                have z1 := blk_cell hX1 1 _ rfl
                have z2 := blk_cell hX1 2 _ rfl
                have f0 := blk_fz hX1 0
                have f1 := blk_fz hX1 1
                have f2 := blk_fz hX1 2
                have zz := blk_lt hX1
                have k0 := blk_cell hZ 0 _ rfl
                have k1 := blk_cell hZ 1 _ rfl
                have k2 := blk_cell hZ 2 _ rfl
                have kz := blk_lt hZ
                go_wp2_with fail
                have hS : (((w1.setCell ⟨w.heap.size, 0, none⟩ (.int .i64 (q : Int))).setCell ⟨w.heap.size, 1, none⟩ (.int .i64 (x : Int))).setCell ⟨w.heap.size, 2, none⟩ (.int .i64 (y : Int))).heap[w.heap.size]? = some (.cells #[.int .i64 (q : Int), .int .i64 (x : Int), .int .i64 (y : Int)] 37 (0, 0)) := blk_set (blk_set (blk_set hX1 _) _) _
                have y0 := blk_cell hS 0 _ rfl
                have y1 := blk_cell hS 1 _ rfl
                have y2 := blk_cell hS 2 _ rfl
                refine bodyPost_ret (v := .tuple #[.agg #[.int .i64 (q : Int), .int .i64 (x : Int), .int .i64 (y : Int)], .bool true]) (by simp [results, Try.results27, go_sem, y0, y1, y2]) rfl ?_
                have hq := HE.out.symm.trans hc.out
                simp only [Prod.mk.injEq] at hq
                obtain ⟨rfl, rfl, rfl, rfl⟩ := hq
                exact ⟨rfl, belS (belS (belS B1.out (Nat.le_refl _) _) (Nat.le_refl _) _) (Nat.le_refl _) _⟩
              | false =>
                clear hZ
                go_wp2_with fail
                go_roundw
                case rel => exact ⟨y + 1, by omega, by go_num, Lib.hid (fun m hm => by
                  by_cases e : m = y
                  · subst e; exact HR.out
                  · exact HJ.out m (by omega)), B1.out, X1.out⟩
                case measure => simp [intOf]; omega
            · have BB := Lib.hid hBj
              have XX := Lib.hid hXj
              have HI2 : Hid (∀ i', i' < x + 1 → ∀ j, j < b.length → isConB a b q (i' : Nat) (j : Nat) = false) := Lib.hid (fun i' hi' j hj => by
                by_cases e : i' = x
                · subst e; exact HJ.out j (by omega)
                · exact HI.out i' (by omega) j hj)
              have hyli : ¬ (y : Int) < b.length := by omega
              clear hBj hXj hBi hXi hBq hXq HJ
              go_wp2_with fail
              go_roundw
              case rel => exact ⟨x + 1, by omega, by go_num, HI2, BB.out, XX.out⟩
              case measure => simp [intOf]; omega
        · have BB := Lib.hid hBi
          have XX := Lib.hid hXi
          have HK2 : Hid (∀ k : Nat, 1 ≤ k → k < q + 1 → NoCon a b k) := Lib.hid (fun k h1 h2 => by
            by_cases e : k = q
            · subst e; exact fun i' hi' j hj => HI.out i' (by omega) j hj
            · exact HK.out k h1 (by omega))
          have hxli : ¬ (x : Int) < a.length := by omega
          clear hBi hXi hBq hXq HI
          go_wp2_with fail
          go_roundw
          case rel => exact ⟨q + 1, by omega, by omega, by go_num, HK2, BB.out, XX.out⟩
          case measure => simp [intOf]; omega
    · obtain rfl : q = 4 := by omega
      have HE := Lib.hid (con_none (by omega) (by omega) HK.out)
      have hX1 := hXq
      have B1 := Lib.hid hBq
      have z0 := blk_cell hX1 0 _ rfl
      have z1 := blk_cell hX1 1 _ rfl
      have z2 := blk_cell hX1 2 _ rfl
      have f0 := blk_fz hX1 0
      have f1 := blk_fz hX1 1
      have f2 := blk_fz hX1 2
      have zz := blk_lt hX1
      clear HK hBq hXq
      go_wp2_with fail
      have hS : (((wr.setCell ⟨w.heap.size, 0, none⟩ (.int .i64 0)).setCell ⟨w.heap.size, 1, none⟩ (.int .i64 0)).setCell ⟨w.heap.size, 2, none⟩ (.int .i64 0)).heap[w.heap.size]? = some (.cells #[.int .i64 0, .int .i64 0, .int .i64 0] 37 (0, 0)) := blk_set (blk_set (blk_set hX1 _) _) _
      have y0 := blk_cell hS 0 _ rfl
      have y1 := blk_cell hS 1 _ rfl
      have y2 := blk_cell hS 2 _ rfl
      refine bodyPost_ret (v := .tuple #[.agg #[.int .i64 0, .int .i64 0, .int .i64 0], .bool false]) (by simp [results, Try.results27, go_sem, y0, y1, y2]) rfl ?_
      have hq := HE.out.symm.trans hc.out
      simp only [Prod.mk.injEq] at hq
      obtain ⟨rfl, rfl, rfl, rfl⟩ := hq
      exact ⟨rfl, belS (belS (belS B1.out (Nat.le_refl _) _) (Nat.le_refl _) _) (Nat.le_refl _) _⟩
end Go.Proofs.Ytojfonenpplahaa
