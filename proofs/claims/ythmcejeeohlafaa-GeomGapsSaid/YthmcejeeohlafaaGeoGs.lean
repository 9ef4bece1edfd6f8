/- For the law GeomGaps: an append at the end of a region that draws; the mathematics of boxes shifted to the right. -/
import Derived.Test.YthmcejeeohlafaaPolX
import Derived.Test.YthmcejeeohlafaaGeoQo
import Derived.Test.YthmcejeeohlafaaGeoL
import Derived.Deep.AppendLies
namespace Go.Proofs.Ythmcejeeohlafaa
open Go.ChangeShapes Go.WideShapes Go.ChangeAt Go.RowKit
set_option linter.unusedVariables false

theorem tail_append {F : Fence} {n0 : Nat} {P : Program} {ops : Array Oper} {Q : Exit → Act → World → Prop} {i0 : Nat} {rest : List Nat} {a : Act} {w : World} {o : Oper} (hF : F.fn = fun _ => True) (hd : F.depth = none) (ha : F.alive = false) (hio : ops[i0]? = some o) (hgd : o.guard = none) (s x : Operand) (t : TypeId)
    (ho : o.op = .call { callee := .builtin .append, args := #[s, x], argTypes := #[t, t] })
    (base : Nat) (e : TypeId) (i : TypeInfo) (z : Value) (size bytes : Nat) (ht : P.underlying t = some (.slice e)) (hi : P.info? e = some i) (hz : i.zero = some z)
    (hsize : i.size = size) (hby : i.bytes = bytes) (hzs : z.cells.size = size) (hsz : 0 < size)
    (v : Value) (n : Nat) (xs : List Value) (hs : a.eval s = v) (hown : w.ownsRow base e size v n xs)
    (ad : Addr) (m c : Nat) (news : List Value) (hx : a.eval x = .slice (some ad) m c) (hl : news.length = m * size) (hnews : ∀ j u, news[j]? = some u → w.cell? (ad.add j) = some u) (h1 : ∀ u ∈ news, u.oneCell' = true)
    (hm : 0 < m) (h63 : n + m ≤ maxLen) (hbytes : (n + m) * bytes ≤ 140737488355328) (hbase : base ≤ w.heap.size)
    (h : ∀ g cap w', w'.ownsRow base e size (.slice (some ⟨g, 0, none⟩) (n + m) cap) (n + m) (xs ++ news) → w.grownBy w' v.ownBlock → (v.ownBlock = some g ∨ g = w.heap.size) → g < w'.heap.size → wpOpsIn F n0 P ops Q rest (a.put o.dst (.slice (some ⟨g, 0, none⟩) (n + m) cap)) w') : wpOpsIn F n0 P ops Q (i0 :: rest) a w := by
  rw [wpOpsIn_cons]
  unfold wpOpIn
  simp only [hio]
  rw [if_pos (by simp [Region.wanted, hgd])]
  exact op_in hF hd ha (by rw [ho]; intro c e; cases e) (wp_append_lies w s x t ho base e i z size bytes ht hi hz hsize hby hzs hsz v n xs hs hown ad m c news hx hl hnews h1 hm h63 hbytes hbase w.heap.size rfl h)
theorem mx_rc (x b c : Int) : mxI (mxI x b) c = mxI (mxI x c) b := by
  have h1 := mxI_bd x b
  have h2 := mxI_bd (mxI x b) c
  have h3 := mxI_bd x c
  have h4 := mxI_bd (mxI x c) b
  omega
theorem gap_swap (a b c d p q r s : Int) : gapI a b c d p q r s = gapI p q r s a b c d := by
  unfold gapI foldI
  simp only [List.foldl_cons, List.foldl_nil]
  rw [mx_rc (mxI 0 (p - c)) (q - d) (a - r), mx_rc 0 (p - c) (a - r), mx_rc (mxI (mxI 0 (a - r)) (p - c)) (q - d) (b - s), mx_rc (mxI 0 (a - r)) (p - c) (b - s)]
theorem box_swap (u v : List (Int × Int)) : boxD v u = boxD u v := by
  unfold boxD
  by_cases h : u.length = 0 ∨ v.length = 0
  · rw [if_pos h, if_pos h.symm]
  · rw [if_neg h, if_neg (fun k => h k.symm), gap_swap]
theorem mxI_le {a b m : Int} (h1 : a ≤ m) (h2 : b ≤ m) : mxI a b ≤ m := by unfold mxI; split <;> assumption
theorem box_nn (u v : List (Int × Int)) : 0 ≤ boxD u v := by
  unfold boxD
  split
  · exact Int.le_refl _
  · unfold gapI foldI
    simp only [List.foldl_cons, List.foldl_nil]
    exact Int.le_trans (Int.le_trans (Int.le_trans (mxI_bd 0 _).1.1 (mxI_bd _ _).1.1) (mxI_bd _ _).1.1) (mxI_bd _ _).1.1
theorem mx4_ge (x y : Int) : 0 ≤ mxI (mxI (mxI x (-x)) y) (-y) ∧ x ≤ mxI (mxI (mxI x (-x)) y) (-y) ∧ -x ≤ mxI (mxI (mxI x (-x)) y) (-y) ∧ y ≤ mxI (mxI (mxI x (-x)) y) (-y) ∧ -y ≤ mxI (mxI (mxI x (-x)) y) (-y) := by
  have a := (mxI_bd x (-x)).1
  have b := (mxI_bd (mxI x (-x)) y).1
  have c := (mxI_bd (mxI (mxI x (-x)) y) (-y)).1
  omega
theorem box_le (u v : List (Int × Int)) {i k : Nat} (hi : i < u.length) (hk : k < v.length) : boxD u v ≤ mxI (mxI (mxI ((u.getD i (0, 0)).1 - (v.getD k (0, 0)).1) (-((u.getD i (0, 0)).1 - (v.getD k (0, 0)).1))) ((u.getD i (0, 0)).2 - (v.getD k (0, 0)).2)) (-((u.getD i (0, 0)).2 - (v.getD k (0, 0)).2)) := by
  obtain ⟨a1, a2⟩ := low_le u i hi
  obtain ⟨b1, b2⟩ := upp_ge u i hi
  obtain ⟨c1, c2⟩ := low_le v k hk
  obtain ⟨d1, d2⟩ := upp_ge v k hk
  obtain ⟨m0, m1, m2, m3, m4⟩ := mx4_ge ((u.getD i (0, 0)).1 - (v.getD k (0, 0)).1) ((u.getD i (0, 0)).2 - (v.getD k (0, 0)).2)
  unfold boxD
  rw [if_neg (by omega)]
  unfold gapI foldI
  simp only [List.foldl_cons, List.foldl_nil]
  exact mxI_le (mxI_le (mxI_le (mxI_le m0 (by omega)) (by omega)) (by omega)) (by omega)
theorem fold_shift (f : Int × Int → Int × Int → Int × Int) (t : Int × Int → Int × Int) (hf : ∀ x y, f (t x) (t y) = t (f x y)) : ∀ (l : List (Int × Int)) (x : Int × Int), (l.map t).foldl f (t x) = t (l.foldl f x)
  | [], _ => rfl
  | y :: l, x => by simp only [List.map_cons, List.foldl_cons]; rw [hf]; exact fold_shift f t hf l (f x y)
theorem foldP_shift (f : Int × Int → Int × Int → Int × Int) (t : Int × Int → Int × Int) (hf : ∀ x y, f (t x) (t y) = t (f x y)) (l : List (Int × Int)) (h : 0 < l.length) : foldP f (l.map t) = t (foldP f l) := by
  cases l with
  | nil => simp at h
  | cons x l => exact fold_shift f t hf l x
theorem mnI_add (a b k : Int) : mnI (a + k) (b + k) = mnI a b + k := by unfold mnI; split <;> split <;> omega
theorem mxI_add (a b k : Int) : mxI (a + k) (b + k) = mxI a b + k := by unfold mxI; split <;> split <;> omega
/-- A quarter of the coordinates; the same, shifted to the right. -/
def q4 (p : Int × Int) : Int × Int := (p.1.tdiv 4, p.2.tdiv 4)
def sh9 (p : Int × Int) : Int × Int := (p.1 + 219700009, p.2)
theorem box_shift (l : List (Int × Int)) (h : 0 < l.length) : boxD l (l.map sh9) = mxI 0 (219700009 - ((foldP uppP l).1 - (foldP lowP l).1)) := by
  have e1 : foldP lowP (l.map sh9) = sh9 (foldP lowP l) := foldP_shift lowP sh9 (fun x y => by unfold lowP sh9; rw [mnI_add]) l h
  have e2 : foldP uppP (l.map sh9) = sh9 (foldP uppP l) := foldP_shift uppP sh9 (fun x y => by unfold uppP sh9; rw [mxI_add]) l h
  have k1 := low_le l 0 h
  have k2 := upp_ge l 0 h
  unfold boxD
  rw [if_neg (by rw [List.length_map]; omega), e1, e2]
  generalize foldP lowP l = a at *
  generalize foldP uppP l = b at *
  unfold gapI foldI sh9
  simp only [List.foldl_cons, List.foldl_nil]
  rw [show a.1 + 219700009 - b.1 = 219700009 - (b.1 - a.1) by omega]
  generalize hX : mxI 0 (219700009 - (b.1 - a.1)) = X
  have x0 : 0 ≤ X := by rw [← hX]; exact (mxI_bd _ _).1.1
  have mm : ∀ y : Int, y ≤ 0 → mxI X y = X := fun y hy => by unfold mxI; rw [if_neg (by omega)]
  rw [mm _ (by omega), mm _ (by omega), mm _ (by omega)]
theorem tdiv4_bd {x : Int} (h : InY x) : -109850000 ≤ x.tdiv 4 ∧ x.tdiv 4 ≤ 109850000 := by
  unfold InY at h
  rcases Int.le_total 0 x with g | g
  · rw [Int.tdiv_eq_ediv_of_nonneg g]; omega
  · obtain ⟨y, rfl⟩ : ∃ y, x = -y := ⟨-x, by omega⟩
    rw [Int.neg_tdiv, Int.tdiv_eq_ediv_of_nonneg (by omega)]; omega
theorem flat_take4 (u : List (Int × Int)) (t : Int × Int → Int × Int) (k : Nat) (h : k < u.length) : flat ((u.map t).take (k + 1)) = flat ((u.map t).take k) ++ [.int .i64 (t (u.getD k (0, 0))).1, .int .i64 (t (u.getD k (0, 0))).2] := by
  have hk : k < (u.map t).length := by simpa using h
  rw [List.take_succ_eq_append_getElem hk, flat_app]
  have : (u.map t)[k] = t (u.getD k (0, 0)) := by rw [List.getElem_map, List.getD_eq_getElem?_getD, List.getElem?_eq_getElem h]; rfl
  rw [this]
  rfl
theorem run_max4 (a b c d : Int) (w : World) : (Builtin.max_ #[3, 3, 3, 3] 3 #[.int .i64 a, .int .i64 b, .int .i64 c, .int .i64 d]).run Try.prog w = .ok (.int .i64 (mxI (mxI (mxI a b) c) d)) w := by
  simp [Builtin.max_, Builtin.max2]
  rfl
end Go.Proofs.Ythmcejeeohlafaa
