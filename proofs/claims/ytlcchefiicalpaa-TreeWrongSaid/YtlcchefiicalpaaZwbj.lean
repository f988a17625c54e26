/- Edits in memory; the program's cmp.Compare; countBefore. Edits in order, by their places. How many entries a leaf has after the edits; the rounds of merged. How many edits there are: in order, for a child, for the rest. Of sizes: what a branch with its edits becomes. What lies below parts: entries in order; pieces and split leave them. fit and join leave what lies below the parts, and the memory. Edits on two sides of a key: the entries of either side are its own. What edited answers: what lies below is what the edits make of it. A store that keeps what is saved. fit by a rule: what holds of all parts in a row, and is kept where two are joined and where an empty one is dropped, holds at the end. How many parts and how many nodes to be saved there are at most. Parts of a tree that stands right, in the statements' memory: in order between bounds, and none too small but a single one. What save leaves: a tree that stands right between the bounds of its parts. -/
import Derived.Test.YtlcchefiicalpaaZwbd
import Derived.Test.YtlcchefiicalpaaZwe
namespace Go.Proofs.Ytlcchefiicalpaa
open Go.RowKit
theorem isnan_any (a : Int) (w : World) : Calls Try.prog 115 #[.int .i64 a] w fun e w' => e = .returned (.bool false) ∧ w = w' := by
  have z1 : (a != a) = false := by simp
  have z2 : (a == a) = true := by simp
  go_enter Try.func115, Try.ntmps115
  go_wp2_with fail
  go_ret
  exact ⟨rfl, rfl⟩
def cmpI (a b : Int) : Int := if a < b then -1 else if b < a then 1 else 0
set_option maxRecDepth 8000 in
set_option maxHeartbeats 2000000 in
theorem compare_any (a b : Int) (w : World) : Calls Try.prog 102 #[.int .i64 a, .int .i64 b] w fun e w' => e = .returned (.int .i64 (cmpI a b)) ∧ w = w' := by
  have N1 := isnan_any a w
  have N2 := isnan_any b w
  by_cases h1 : a < b
  · have z1 : decide (a < b) = true := by rw [decide_eq_true_eq]; exact h1
    have E : cmpI a b = -1 := by unfold cmpI; rw [if_pos h1]
    rw [E]
    clear h1 E
    go_enter Try.func102, Try.ntmps102
    go_wp2_with (first | (refine N1.mono ?_; rintro e w' ⟨rfl, rfl⟩) | (refine N2.mono ?_; rintro e w' ⟨rfl, rfl⟩))
    go_ret
    exact ⟨rfl, rfl⟩
  have z1 : decide (a < b) = false := by rw [decide_eq_false_iff_not]; exact h1
  by_cases h2 : b < a
  · have z2 : decide (b < a) = true := by rw [decide_eq_true_eq]; exact h2
    have E : cmpI a b = 1 := by unfold cmpI; rw [if_neg h1, if_pos h2]
    rw [E]
    clear h1 h2 E
    go_enter Try.func102, Try.ntmps102
    go_wp2_with (first | (refine N1.mono ?_; rintro e w' ⟨rfl, rfl⟩) | (refine N2.mono ?_; rintro e w' ⟨rfl, rfl⟩))
    go_ret
    exact ⟨rfl, rfl⟩
  have z2 : decide (b < a) = false := by rw [decide_eq_false_iff_not]; exact h2
  have E : cmpI a b = 0 := by unfold cmpI; rw [if_neg h1, if_neg h2]
  rw [E]
  clear h1 h2 E
  go_enter Try.func102, Try.ntmps102
  go_wp2_with (first | (refine N1.mono ?_; rintro e w' ⟨rfl, rfl⟩) | (refine N2.mono ?_; rintro e w' ⟨rfl, rfl⟩))
  go_ret
  exact ⟨rfl, rfl⟩
/-- Edits as cells. -/
def edcs : List Tr.Ed → List Value
  | [] => []
  | x :: l => .int .i64 x.x.k :: .int .i64 x.x.p.1 :: .int .i64 x.x.p.2.1 :: .int .i64 x.x.p.2.2 :: .int .i64 x.x.g :: .bool x.cut :: edcs l
theorem edcs_len : ∀ l : List Tr.Ed, (edcs l).length = l.length * 6
  | [] => rfl
  | x :: l => by rw [edcs]; simp only [List.length_cons]; rw [edcs_len l]; omega
theorem edcs_app : ∀ l m : List Tr.Ed, edcs (l ++ m) = edcs l ++ edcs m
  | [], _ => rfl
  | x :: l, m => by rw [List.cons_append, edcs, edcs, edcs_app l m]; rfl
theorem edcs_one (l : List Tr.Ed) : ∀ u ∈ edcs l, u.oneCell' = true := by
  induction l with
  | nil => simp [edcs]
  | cons a l ih =>
    intro u hu
    rw [edcs] at hu
    simp only [List.mem_cons] at hu
    rcases hu with rfl | rfl | rfl | rfl | rfl | rfl | hu
    all_goals first | rfl | exact ih u hu
theorem edcs_take : ∀ (l : List Tr.Ed) (k : Nat), edcs (l.take k) = (edcs l).take (k * 6)
  | [], k => by simp [edcs]
  | x :: l, 0 => by simp [edcs]
  | x :: l, k + 1 => by
    rw [List.take_succ_cons, edcs, edcs, edcs_take l k, show (k + 1) * 6 = k * 6 + 1 + 1 + 1 + 1 + 1 + 1 by omega]
    simp only [List.take_succ_cons]
theorem edcs_drop : ∀ (l : List Tr.Ed) (k : Nat), edcs (l.drop k) = (edcs l).drop (k * 6)
  | [], k => by simp [edcs]
  | x :: l, 0 => by simp
  | x :: l, k + 1 => by
    rw [List.drop_succ_cons, edcs, edcs_drop l k, show (k + 1) * 6 = k * 6 + 1 + 1 + 1 + 1 + 1 + 1 by omega]
    simp only [List.drop_succ_cons]
def ed1 (x : Tr.Ed) : List Value := edcs [x]
def edv (x : Tr.Ed) : Value := .agg #[.int .i64 x.x.k, .int .i64 x.x.p.1, .int .i64 x.x.p.2.1, .int .i64 x.x.p.2.2, .int .i64 x.x.g, .bool x.cut]
theorem edcs_at : ∀ {l : List Tr.Ed} {k j : Nat} {x : Tr.Ed}, l[k]? = some x → j < 6 → (edcs l)[k * 6 + j]? = (ed1 x)[j]?
  | [], _, _, _, h, _ => by cases h
  | y :: l, 0, j, x, h, hj => by
    injection h with h
    subst h
    rw [Nat.zero_mul, Nat.zero_add, show edcs (y :: l) = ed1 y ++ edcs l from rfl, List.getElem?_append_left (by rw [show (ed1 y).length = 6 from rfl]; exact hj)]
  | y :: l, k + 1, j, x, h, hj => by
    have := edcs_at (l := l) (k := k) (j := j) (x := x) (by simpa using h) hj
    rw [show edcs (y :: l) = ed1 y ++ edcs l from rfl, List.getElem?_append_right (by rw [show (ed1 y).length = 6 from rfl]; omega), show (k + 1) * 6 + j - (ed1 y).length = k * 6 + j by rw [show (ed1 y).length = 6 from rfl]; omega, this]
theorem Sl.edit {w : World} {B : Nat} {A : Option Addr} {l : List Tr.Ed} (h : Sl w B A (edcs l)) {i : Nat} {x : Tr.Ed} (hi : l[i]? = some x) : ∃ b o, A = some ⟨b, o, none⟩ ∧ b < B ∧ w.rangeAt b (o + i * 6) (ed1 x) := by
  have hil : i < l.length := (List.getElem?_eq_some_iff.1 hi).1
  have hl := edcs_len l
  obtain ⟨b, o, e, hb, hc⟩ := h.at_ (show i * 6 < (edcs l).length by omega)
  refine ⟨b, o, e, hb, fun j v hv => ?_⟩
  have hj : j < 6 := (List.getElem?_eq_some_iff.1 hv).1
  rw [Nat.add_assoc, hc (i * 6 + j) (by omega), ← List.getElem?_eq_getElem, edcs_at hi hj, hv]
theorem edit_isrow : (TypeDesc.isRow <$> (Try.prog.underlying 146)) = some true := by kernel_rfl
theorem edit_row : ∃ d, Try.prog.underlying 146 = some d ∧ d.isRow = true := by
  obtain ⟨d, h1, h2⟩ := Option.map_eq_some_iff.1 edit_isrow
  exact ⟨d, h1, h2⟩
theorem edit_size : (Try.prog.info? 146).map (·.size) = some 6 := by kernel_rfl
set_option maxRecDepth 8000 in
set_option maxHeartbeats 4000000 in
theorem before1_any (x : Tr.Ed) (t : Int) (w : World) : Calls Try.prog 110 #[edv x, .int .i64 t] w fun e w' => e = .returned (.int .i64 (cmpI x.x.k t)) ∧ Below w.heap.size w w' := by
  obtain ⟨W, hW⟩ : ∃ W, w.alloc (.cells #[.int .i64 x.x.k, .int .i64 x.x.p.1, .int .i64 x.x.p.2.1, .int .i64 x.x.p.2.2, .int .i64 x.x.g, .bool x.cut] 146) = W := ⟨_, rfl⟩
  have bx : Blk W w.heap.size 146 #[.int .i64 x.x.k, .int .i64 x.x.p.1, .int .i64 x.x.p.2.1, .int .i64 x.x.p.2.2, .int .i64 x.x.g, .bool x.cut] := by rw [← hW]; exact Blk.new _ _ _
  have x0 : W.cell? ⟨w.heap.size, 0, none⟩ = some (.int .i64 x.x.k) := bx.cell 0
  have HB := Lib.hid (show Below w.heap.size w W by rw [← hW]; exact below_alloc1 _ _)
  have N1 := Lib.hid (compare_any x.x.k t W)
  unfold edv
  clear bx
  go_enter Try.func110, Try.ntmps110
  go_wp2_with (go_at_call 102; (with_reducible refine N1.out.mono ?_); rintro e w2 ⟨rfl, rfl⟩)
  go_ret
  exact ⟨rfl, HB.out⟩
theorem wpList_load_midge {P : Program} {ops : Array Oper} {rest : List Oper} {op : Oper} {a : Act} {w : World} {Q : Exit → Act → World → Prop} (hgd : Region.wanted op (yielded ops a.tmps) = true) (ty : TypeId) (x : Operand) (ho : op.op = .load ty x)
    (b o : Nat) (hx : a.eval x = .pointer (some ⟨b, o, none⟩)) (cs : List Value) (d : TypeDesc) (hc : w.rangeAt b o cs)
    (hu : P.underlying ty = some d) (hd : d.isRow = true) (hi : (P.info? ty).map (·.size) = some cs.length)
    (h : wpList P ops Q rest (a.put op.dst (.agg cs.toArray)) w) : wpList P ops Q (op :: rest) a w :=
  BigFrame.wpList_want hgd fun _ hK => wp_load_mid ty x ho b o hx cs d hc hu hd hi (hK _ _ h)
namespace Tr
def edz : Ed := ⟨z, false⟩
def kE (l : List Ed) (j : Nat) : Int := (l.getD j edz).x.k
/-- The keys ascend. -/
def AscE (l : List Ed) : Prop := ∀ i j, i < j → j < l.length → kE l i < kE l j
theorem cnt_is : ∀ {l : List Ed} {t : Int} {i : Nat}, i ≤ l.length → (∀ j, j < i → kE l j < t) → (∀ j, i ≤ j → j < l.length → t ≤ kE l j) → cnt l t = i
  | [], t, i, h, _, _ => by simp at h; subst h; rfl
  | x :: l, t, 0, _, _, h3 => by
    have := h3 0 (Nat.le_refl _) (by simp)
    unfold cnt
    rw [List.takeWhile_cons_of_neg (by simpa [kE] using this)]
    rfl
  | x :: l, t, i + 1, h1, h2, h3 => by
    have h := h2 0 (by omega)
    have ih := cnt_is (l := l) (t := t) (i := i) (by simpa using h1) (fun j hj => h2 (j + 1) (by omega)) (fun j ha hb => h3 (j + 1) (by omega) (by simpa using hb))
    unfold cnt at ih ⊢
    rw [List.takeWhile_cons_of_pos (by simpa [kE] using h), List.length_cons, ih]
theorem cnt_le (l : List Ed) (t : Int) : cnt l t ≤ l.length := (List.takeWhile_sublist _).length_le
end Tr
set_option maxRecDepth 8000 in
set_option maxHeartbeats 8000000 in
theorem bsfe_any {w : World} {A : Option Addr} {c n : Nat} {l : List Tr.Ed} (h : SlC w w.heap.size A c n (edcs l)) (hn : l.length = n) (few : n ≤ 1000000) (ha : Tr.AscE l) (t : Int) :
    Calls Try.prog 109 #[.slice A n c, .int .i64 t, .func (.func 110) #[] #[]] w fun e w' => ∃ is : Bool, e = .returned (.tuple #[.int .i64 (Tr.cnt l t : Int), .bool is]) ∧ Below w.heap.size w w' := by
  obtain ⟨d0, hd0, hd1⟩ := edit_row
  have eg : ∀ a (W : World), (callFunc 110 a).run Try.prog W = .ok (.enter 110 a) W := fun a W => by kernel_rfl
  have H := Lib.hid h
  have HA := Lib.hid ha
  have Hn := Lib.hid hn
  clear h ha hn
  go_enter Try.func109, Try.ntmps109
  go_wp2_with fail
  go_loopw [9, 10] (fun s9 s10 wr => ∃ lo hi : Nat, s9 = .int .i64 (lo : Int) ∧ s10 = .int .i64 (hi : Int) ∧ lo ≤ hi ∧ hi ≤ n ∧ Below w.heap.size w wr ∧ (∀ j, j < lo → Tr.kE l j < t) ∧ ∀ j, hi ≤ j → j < n → t ≤ Tr.kE l j) (fun s9 s10 _ => (intOf s10).toNat - (intOf s9).toNat)
  case atStart => exact ⟨0, n, rfl, rfl, Nat.zero_le _, Nat.le_refl _, Below.refl _ _, fun j hj => absurd hj (Nat.not_lt_zero _), fun j h1 h2 => absurd h2 (Nat.not_lt.2 h1)⟩
  case round =>
    obtain ⟨lo, hi, rfl, rfl, hlh, hin, hb, i1, i2⟩ := hrel
    have I1 := Lib.hid i1
    have I2 := Lib.hid i2
    have HB := Lib.hid hb
    clear i1 i2
    by_cases hlt : lo < hi
    · obtain ⟨mid, hm⟩ : ∃ mid : Nat, mid = (lo + hi) / 2 := ⟨_, rfl⟩
      have s1 : ((lo : Int) + (hi : Int)) / 2 = (mid : Int) := by omega
      have hmid : lo ≤ mid ∧ mid < hi := by omega
      have hmn : (mid : Int) < (n : Int) := by omega
      have d1 : decide ((lo : Int) < (hi : Int)) = true := by rw [decide_eq_true_eq]; omega
      have d1' : decide (lo < hi) = true := by rw [decide_eq_true_eq]; omega
      obtain ⟨x, hx⟩ : ∃ x, l[mid]? = some x := ⟨_, List.getElem?_eq_getElem (by rw [Hn.out]; omega)⟩
      obtain ⟨b, o, rfl, hb1, rg⟩ := (H.out.below hb).sl.edit hx
      have Hx := Lib.hid (show x.x.k = Tr.kE l mid by unfold Tr.kE; rw [List.getD_eq_getElem?_getD, hx]; rfl)
      obtain ⟨cv, hcv⟩ : ∃ cv, cmpI x.x.k t = cv := ⟨_, rfl⟩
      have N0 := fun u => before1_any x t u
      rw [hcv] at N0
      have N1 := Lib.hid N0
      dsimp only [edv] at N1
      clear N0 hb hb1 hx
      by_cases hxt : x.x.k < t
      · have q1 : decide (cv < 0) = true := by rw [← hcv, decide_eq_true_eq]; unfold cmpI; rw [if_pos hxt]; decide
        have Nx := Lib.hid (show ∀ j, j < mid + 1 → Tr.kE l j < t from fun j hj => by
          rcases Nat.lt_or_ge j mid with h | h
          · have h1 := HA.out j mid h (by rw [Hn.out]; omega); rw [← Hx.out] at h1; omega
          · rw [show j = mid by omega, ← Hx.out]; exact hxt)
        have Hmid := Lib.hid (show mid + 1 ≤ hi ∧ hi ≤ n ∧ lo ≤ mid from ⟨by omega, hin, hmid.1⟩)
        clear hxt hm hcv hmid
        go_wp2_with (first
          | ((with_reducible show wpList _ _ _ (⟨some 28, Op.load 146 _, _, _, _, _⟩ :: _) _ _); refine wpList_load_mid rfl 146 _ rfl b (o + mid * 6) rfl [.int .i64 x.x.k, .int .i64 x.x.p.1, .int .i64 x.x.p.2.1, .int .i64 x.x.p.2.2, .int .i64 x.x.g, .bool x.cut] d0 rg hd0 hd1 edit_size ?_)
          | (go_at_call 110; (with_reducible refine (N1.out wr).mono ?_); rintro e w2 ⟨rfl, h2⟩; (have H2 := Lib.hid (HB.out.trans (h2.mono HB.out.size))); clear h2))
        go_roundw
        case rel => exact ⟨mid + 1, hi, by go_num, rfl, Hmid.out.1, Hmid.out.2.1, H2.out, Nx.out, I2.out⟩
        case measure => have := Hmid.out; simp [intOf]; omega
      · have q1 : decide (cv < 0) = false := by rw [← hcv, decide_eq_false_iff_not]; unfold cmpI; rw [if_neg hxt]; split <;> omega
        have Nx := Lib.hid (show ∀ j, mid ≤ j → j < n → t ≤ Tr.kE l j from fun j h1 h2 => by
          rcases Nat.eq_or_lt_of_le h1 with h | h
          · rw [← h, ← Hx.out]; omega
          · have h3 := HA.out mid j h (by rw [Hn.out]; exact h2); rw [← Hx.out] at h3; omega)
        have Hmid := Lib.hid (show lo ≤ mid ∧ mid ≤ n ∧ mid < hi from ⟨hmid.1, by omega, hmid.2⟩)
        clear hxt hm hcv hmid
        go_wp2_with (first
          | ((with_reducible show wpList _ _ _ (⟨some 28, Op.load 146 _, _, _, _, _⟩ :: _) _ _); refine wpList_load_mid rfl 146 _ rfl b (o + mid * 6) rfl [.int .i64 x.x.k, .int .i64 x.x.p.1, .int .i64 x.x.p.2.1, .int .i64 x.x.p.2.2, .int .i64 x.x.g, .bool x.cut] d0 rg hd0 hd1 edit_size ?_)
          | (go_at_call 110; (with_reducible refine (N1.out wr).mono ?_); rintro e w2 ⟨rfl, h2⟩; (have H2 := Lib.hid (HB.out.trans (h2.mono HB.out.size))); clear h2))
        go_roundw
        case rel => exact ⟨lo, mid, rfl, rfl, Hmid.out.1, Hmid.out.2.1, H2.out, I1.out, Nx.out⟩
        case measure => have := Hmid.out; simp [intOf]; omega
    · obtain rfl : lo = hi := by omega
      have d1 : decide ((lo : Int) < (lo : Int)) = false := by simp
      have d1' : decide (lo < lo) = false := by simp
      have Fin := Lib.hid (show Tr.cnt l t = lo from Tr.cnt_is (by rw [Hn.out]; exact hin) I1.out (fun j h1 h2 => I2.out j h1 (by rw [← Hn.out]; exact h2)))
      by_cases hn0 : lo < n
      · have d2 : decide ((lo : Int) < (n : Int)) = true := by rw [decide_eq_true_eq]; omega
        have d2' : decide (lo < n) = true := by rw [decide_eq_true_eq]; omega
        have hmn : (lo : Int) < (n : Int) := by omega
        obtain ⟨x, hx⟩ : ∃ x, l[lo]? = some x := ⟨_, List.getElem?_eq_getElem (by rw [Hn.out]; omega)⟩
        obtain ⟨b, o, rfl, hb1, rg⟩ := (H.out.below hb).sl.edit hx
        obtain ⟨cv, hcv⟩ : ∃ cv, cmpI x.x.k t = cv := ⟨_, rfl⟩
        obtain ⟨is, his⟩ : ∃ is, (cv == 0) = is := ⟨_, rfl⟩
        have N0 := fun u => before1_any x t u
        rw [hcv] at N0
        have N1 := Lib.hid N0
        dsimp only [edv] at N1
        clear N0 hb hb1 hx hcv
        go_wp2_with (first
          | ((with_reducible show wpList _ _ _ (⟨some 44, Op.load 146 _, _, _, _, _⟩ :: _) _ _); refine wpList_load_midge rfl 146 _ rfl b (o + lo * 6) rfl [.int .i64 x.x.k, .int .i64 x.x.p.1, .int .i64 x.x.p.2.1, .int .i64 x.x.p.2.2, .int .i64 x.x.g, .bool x.cut] d0 rg hd0 hd1 edit_size ?_)
          | (go_at_call 110; (with_reducible refine (N1.out wr).mono ?_); rintro e w2 ⟨rfl, h2⟩; (have H2 := Lib.hid (HB.out.trans (h2.mono HB.out.size))); clear h2))
        go_returns
        exact ⟨is, by rw [Fin.out]; rfl, H2.out⟩
      · have d2 : decide ((lo : Int) < (n : Int)) = false := by rw [decide_eq_false_iff_not]; omega
        have d2' : decide (lo < n) = false := by rw [decide_eq_false_iff_not]; omega
        clear hb
        go_wp2_with fail
        go_returns
        exact ⟨false, by rw [Fin.out]; rfl, HB.out⟩
set_option maxRecDepth 8000 in
set_option maxHeartbeats 4000000 in
theorem countbefore_any {w : World} {A : Option Addr} {c n : Nat} {l : List Tr.Ed} (h : SlC w w.heap.size A c n (edcs l)) (hn : l.length = n) (few : n ≤ 1000000) (ha : Tr.AscE l) (t : Int) :
    Calls Try.prog 98 #[.slice A n c, .int .i64 t] w fun e w' => e = .returned (.int .i64 (Tr.cnt l t : Int)) ∧ Below w.heap.size w w' := by
  have HC := bsfe_any h hn few ha t
  obtain ⟨k, hk⟩ : ∃ k, Tr.cnt l t = k := ⟨_, rfl⟩
  rw [hk] at HC ⊢
  clear h hn hk
  go_enter Try.func98, Try.ntmps98
  go_wp2_with (go_at_call 109; (with_reducible refine HC.mono ?_); rintro e w2 ⟨is, rfl, h2⟩; (have H2 := Lib.hid h2); clear h2)
  go_ret
  exact ⟨rfl, H2.out⟩
end Go.Proofs.Ytlcchefiicalpaa
namespace Go.Proofs.Ytlcchefiicalpaa.Tr
theorem ascE_of {l : List Ed} (h : AscP l) : AscE l := fun i j hij hj => by
  have hi : i < l.length := Nat.lt_trans hij hj
  have e1 : l.getD i edz = l[i] := by simp [hi]
  have e2 : l.getD j edz = l[j] := by simp [hj]
  show (l.getD i edz).x.k < (l.getD j edz).x.k
  rw [e1, e2]
  exact (List.pairwise_iff_getElem.1 h) i j hi hj hij
theorem inOrder_ascE (l : List Ed) : AscE (inOrder l) := ascE_of (inOrder_asc l)
theorem ascP_take {l : List Ed} (h : AscP l) (n : Nat) : AscP (l.take n) := List.Pairwise.sublist (List.take_sublist n l) h
theorem ascP_drop {l : List Ed} (h : AscP l) (n : Nat) : AscP (l.drop n) := List.Pairwise.sublist (List.drop_sublist n l) h
end Go.Proofs.Ytlcchefiicalpaa.Tr
namespace Go.Proofs.Ytlcchefiicalpaa.Tr
theorem merged_len : ∀ (eds : List Ed) (l : List E), (merged eds l).length ≤ l.length + eds.length
  | [], l => Nat.le_refl _
  | x :: xs, l => by
    rw [merged_cons]
    have h1 := merged_len xs (rest l x.x.k)
    have h2 : (rest l x.x.k).length ≤ (l.dropWhile fun y => decide (y.k < x.x.k)).length := (dropEq_sub _ _).length_le
    have h3 : (l.takeWhile fun y => decide (y.k < x.x.k)).length + (l.dropWhile fun y => decide (y.k < x.x.k)).length = l.length := by
      rw [← List.length_append, List.takeWhile_append_dropWhile]
    have h4 : (if x.cut then ([] : List E) else [x.x]).length ≤ 1 := by split <;> simp
    simp only [List.length_append, List.length_cons]
    omega
/-- What the program's two rows are ahead of an edit: what is out, what is left. -/
def mgO : List Ed → List E → List E → List E × List E
  | [], o, l => (o, l)
  | x :: xs, o, l => mgO xs ((o ++ l.takeWhile fun y => decide (y.k < x.x.k)) ++ (if x.cut then [] else [x.x])) (rest l x.x.k)
theorem mgO_is : ∀ (eds : List Ed) (o l : List E), (mgO eds o l).1 ++ (mgO eds o l).2 = o ++ merged eds l
  | [], o, l => rfl
  | x :: xs, o, l => by
    show (mgO xs _ _).1 ++ (mgO xs _ _).2 = _
    rw [mgO_is xs, merged_cons]
    simp only [List.append_assoc]
theorem mgO_app : ∀ (a : List Ed) (x : Ed) (o l : List E), mgO (a ++ [x]) o l = (((mgO a o l).1 ++ (mgO a o l).2.takeWhile fun y => decide (y.k < x.x.k)) ++ (if x.cut then [] else [x.x]), rest (mgO a o l).2 x.x.k)
  | [], x, o, l => rfl
  | y :: a, x, o, l => by
    show mgO (a ++ [x]) _ _ = _
    rw [mgO_app a]
    rfl
theorem mgO_len : ∀ (eds : List Ed) (o l : List E), (mgO eds o l).1.length + (mgO eds o l).2.length ≤ o.length + l.length + eds.length := fun eds o l => by
  have h := congrArg List.length (mgO_is eds o l)
  have h1 := merged_len eds l
  simp only [List.length_append] at h
  omega
end Go.Proofs.Ytlcchefiicalpaa.Tr
namespace Go.Proofs.Ytlcchefiicalpaa.Tr
theorem insE_len (x : Ed) : ∀ (s : List Ed), (insE x s).length = s.length + 1
  | [] => rfl
  | y :: l => by
    unfold insE
    split
    · rfl
    · show (insE x l).length + 1 = _
      rw [insE_len x l]; rfl
theorem foldE_len : ∀ (l s : List Ed), (l.foldl (fun s x => insE x s) s).length = s.length + l.length
  | [], s => rfl
  | x :: l, s => by
    show (l.foldl (fun s x => insE x s) (insE x s)).length = _
    rw [foldE_len l, insE_len, List.length_cons]; omega
theorem sortE_len (l : List Ed) : (sortE l).length = l.length := (foldE_len l []).trans (Nat.zero_add _)
theorem lastOnes_len : ∀ (l : List Ed), (lastOnes l).length ≤ l.length
  | [] => Nat.le_refl _
  | [x] => Nat.le_refl _
  | x :: y :: l => by
    unfold lastOnes
    have h := lastOnes_len (y :: l)
    split
    · exact Nat.le_succ_of_le h
    · exact Nat.succ_le_succ h
theorem inOrder_len (l : List Ed) : (inOrder l).length ≤ l.length := Nat.le_trans (lastOnes_len _) (Nat.le_of_eq (sortE_len l))
theorem lastOnes_ne : ∀ {l : List Ed}, l ≠ [] → lastOnes l ≠ []
  | [], h => absurd rfl h
  | [x], _ => by simp [lastOnes]
  | x :: y :: l, _ => by
    unfold lastOnes
    split
    · exact lastOnes_ne (List.cons_ne_nil _ _)
    · exact List.cons_ne_nil _ _
theorem inOrder_ne {l : List Ed} (h : l ≠ []) : inOrder l ≠ [] := lastOnes_ne fun e => h (List.length_eq_zero_iff.1 ((sortE_len l).symm.trans (by rw [e]; rfl)))
end Go.Proofs.Ytlcchefiicalpaa.Tr
namespace Go.Proofs.Ytlcchefiicalpaa
open Go.RowKit
namespace Tr
section
variable {σ : Type} (S : Sto σ)
/-- What the edits of a child make. -/
def EdOk {h : Nat} (ed : σ → Br → List Ed → Res σ (List (Pt h) × Bool)) : Prop := ∀ {st b eds l c}, b.h.toNat = h → (ed st b eds).2 = .ok (l, c) → Wfs l ∧ wts l ≤ 8 ^ (h + 1) + eds.length
theorem edKids_wf {h : Nat} {ed : σ → Br → List Ed → Res σ (List (Pt h) × Bool)} (he : EdOk ed) : ∀ {bs : List Br} {st : σ} {eds : List Ed} {l : List (Pt (h + 1))} {c : Bool}, (∀ b ∈ bs, b.h.toNat = h ∧ KR b.k) → (edKids ed bs st eds).2 = .ok (l, c) → WfA l ∧ wts l ≤ bs.length * 8 ^ (h + 1) + eds.length
  | [], st, eds, l, c, hb, e => by
    injection e with e
    injection e with e1 e2
    subst e1
    exact ⟨(fun q hq => by cases hq), Nat.zero_le _⟩
  | b :: bs, st, eds, l, c, hb, e => by
    have hb0 := hb b (List.mem_cons_self ..)
    have hbs : ∀ x ∈ bs, x.h.toNat = h ∧ KR x.k := fun x hx => hb x (List.mem_cons_of_mem _ hx)
    have hm : (b :: bs).length * 8 ^ (h + 1) = bs.length * 8 ^ (h + 1) + 8 ^ (h + 1) := by rw [List.length_cons, Nat.add_mul, Nat.one_mul]
    have ho : wt (h + 1) (old (h := h) b) = 8 ^ (h + 1) := rfl
    unfold edKids at e
    split at e
    · rcases h1 : edKids ed bs st eds with ⟨s1, er | ⟨m, d⟩⟩
      · rw [h1] at e; cases e
      · rw [h1] at e
        injection e with e
        injection e with e1 e2
        subst e1
        obtain ⟨a1, a2⟩ := edKids_wf he hbs (by rw [h1])
        refine ⟨fun q hq => ?_, ?_⟩
        · rcases List.mem_cons.1 hq with rfl | hq
          · exact hb0
          · exact a1 q hq
        · rw [wts_cons, ho, hm]; omega
    · rcases h2 : ed st b (eds.take (cnt eds b.t)) with ⟨s2, er | ⟨below, is⟩⟩
      · rw [h2] at e; cases e
      · rw [h2] at e
        dsimp only at e
        obtain ⟨w1, w2⟩ := he hb0.1 (by rw [h2])
        rcases h1 : edKids ed bs s2 (eds.drop (cnt eds b.t)) with ⟨s1, er | ⟨m, d⟩⟩
        · rw [h1] at e; cases e
        · rw [h1] at e
          injection e with e
          injection e with e1 e2
          subst e1
          obtain ⟨a1, a2⟩ := edKids_wf he hbs (by rw [h1])
          have hc := cnt_le eds b.t
          rw [List.length_take, Nat.min_eq_left hc] at w2
          rw [List.length_drop] at a2
          refine ⟨fun q hq => ?_, ?_⟩
          · rcases List.mem_cons.1 hq with rfl | hq
            · cases is
              · exact hb0
              · exact w1
            · exact a1 q hq
          · rw [wts_cons, hm]
            cases is
            · rw [if_neg (by decide), ho]; omega
            · rw [if_pos rfl, wt_frs]; omega
theorem edited_wf : ∀ h, EdOk (edited S h)
  | 0 => by
    rename_i st b eds l c
    intro hb e
    unfold edited at e
    rcases h1 : load S st b with ⟨s1, er | n⟩
    · rw [h1] at e; cases e
    · rw [h1] at e
      injection e with e
      injection e with e1 e2
      subst e1
      refine ⟨fun q _ => ⟨trivial, Nat.one_pos⟩, ?_⟩
      have h8 := (load_fits' S (b := b) (n := n) (st := st) (by rw [h1])).1.few
      have hl : (leaf n).length = n.ks.length := (List.length_map ..).trans (List.length_range ..)
      have hm := merged_len eds (leaf n)
      exact Nat.le_trans (Nat.le_of_eq (wts_zero _)) (Nat.le_trans hm (by omega))
  | h + 1 => by
    rename_i st b eds l c
    intro hb e
    unfold edited at e
    rcases h1 : load S st b with ⟨s1, er | n⟩
    · rw [h1] at e; cases e
    · rw [h1] at e
      dsimp only at e
      have hff := load_fits' S (b := b) (n := n) (st := st) (by rw [h1])
      have h8 := hff.1.few
      rcases h2 : edKids (edited S h) (kidsB b n) s1 eds with ⟨s2, er | ⟨m, d⟩⟩
      · rw [h2] at e; cases e
      · rw [h2] at e
        dsimp only at e
        obtain ⟨a1, a2⟩ := edKids_wf (bs := kidsB b n) (edited_wf h) (fun x hx => by
          obtain ⟨i, hi, rfl⟩ := List.mem_map.1 hx
          refine ⟨?_, kr_kid hb hff (List.mem_range.1 hi)⟩
          show (b.h - 1).toNat = h
          omega) (by rw [h2])
        rw [kids_len] at a2
        have hp : n.ks.length * 8 ^ (h + 1) ≤ 8 ^ (h + 1 + 1) := by
          rw [Nat.pow_succ 8 (h + 1), Nat.mul_comm]
          exact Nat.mul_le_mul_left _ h8
        split at e
        · rcases h3 : fit S h s2 m with ⟨s3, er | r⟩
          · rw [h3] at e; cases e
          · rw [h3] at e
            injection e with e
            injection e with e1 e2
            subst e1
            obtain ⟨b1, b2⟩ := fit_wf S a1 (by rw [h3])
            exact ⟨b1, Nat.le_trans b2 (Nat.le_trans a2 (Nat.add_le_add_right hp _))⟩
        · injection e with e
          injection e with e1 e2
          subst e1
          exact ⟨Wfs.nil, Nat.zero_le _⟩
end
end Tr
end Go.Proofs.Ytlcchefiicalpaa
namespace Go.Proofs.Ytlcchefiicalpaa
open Go.RowKit
namespace Tr
/-- All entries below a part, in a memory. -/
def cont (M : List Nd.N) : (h : Nat) → Pt h → List E
  | 0, e => [e]
  | h + 1, .inl b => ent M h b.k.1
  | h + 1, .inr l => l.flatMap (cont M h)
def conts (M : List Nd.N) {h : Nat} (l : List (Pt h)) : List E := l.flatMap (cont M h)
section
variable (M : List Nd.N)
theorem conts_nil {h : Nat} : conts M ([] : List (Pt h)) = [] := rfl
theorem conts_cons {h : Nat} (x : Pt h) (l : List (Pt h)) : conts M (x :: l) = cont M h x ++ conts M l := List.flatMap_cons
theorem conts_app {h : Nat} (a b : List (Pt h)) : conts M (a ++ b) = conts M a ++ conts M b := List.flatMap_append
theorem cont_frs {h : Nat} (l : List (Pt h)) : cont M (h + 1) (frs l) = conts M l := rfl
theorem cont_old {h : Nat} (b : Br) : cont M (h + 1) (old b) = ent M h b.k.1 := rfl
theorem conts_zero : ∀ l : List (Pt 0), conts M l = l
  | [] => rfl
  | x :: l => by rw [conts_cons, conts_zero l]; rfl
theorem conts_cut {h : Nat} (l : List (Pt h)) (c : Nat) : ∀ k : Nat, conts M ((List.range k).map fun i => frs (cut1 l c i)) = conts M (l.take (lo l.length c k))
  | 0 => by rw [lo_zero, List.take_zero]; rfl
  | k + 1 => by
    rw [List.range_succ, List.map_append, conts_app, conts_cut l c k]
    have e : lo l.length c (k + 1) = lo l.length c k + (lo l.length c (k + 1) - lo l.length c k) := by have := lo_mono (n := l.length) (c := c) (i := k); omega
    rw [e, List.take_add, conts_app]
    have : conts M [frs (cut1 l c k)] = conts M (cut1 l c k) := by rw [conts_cons, conts_nil, List.append_nil]; rfl
    show _ ++ conts M [frs (cut1 l c k)] = _
    rw [this]
    rfl
theorem pieces_cont {h : Nat} (l : List (Pt h)) : conts M (pieces l) = conts M l := by
  by_cases h0 : l.length = 0
  · obtain rfl := List.eq_nil_of_length_eq_zero h0
    have e : pieces ([] : List (Pt h)) = [] := by simp [pieces]
    rw [e]
    rfl
  · have hc : 0 < (l.length + 7) / 8 := by omega
    rw [pieces_is, conts_cut, lo_all hc, List.take_length]
theorem split_cont {h : Nat} : ∀ (l : List (Pt (h + 1))), conts M (split l) = conts M l
  | [] => rfl
  | x :: l => by
    have h2 := split_cont l
    rcases (show (∃ b, x = old b) ∨ ∃ m, x = frs m by cases x with | inl b => exact .inl ⟨b, rfl⟩ | inr m => exact .inr ⟨m, rfl⟩) with ⟨b, rfl⟩ | ⟨m, rfl⟩
    · have e : split (old b :: l) = old b :: split l := rfl
      rw [e, conts_cons, conts_cons, h2]
    · have e : split (frs m :: l) = pieces m ++ split l := rfl
      rw [e, conts_app, conts_cons, h2, pieces_cont, cont_frs]
theorem conts_parts {h : Nat} (b : Br) : conts M (parts h b (nd M b.k.1)) = ent M h b.k.1 := by
  cases h with
  | zero => exact conts_zero M _
  | succ h =>
    show ((kidsB b (nd M b.k.1)).map (old (h := h))).flatMap (cont M (h + 1)) = (List.range (nd M b.k.1).ks.length).flatMap fun i => ent M h (Nd.t3 (nd M b.k.1).cs i).1
    unfold kidsB
    rw [List.map_map, List.flatMap_map]
    rfl
theorem emp_cont {h : Nat} {x : Pt (h + 1)} (he : emp x = true) : cont M (h + 1) x = [] := by
  cases x with
  | inl b => cases he
  | inr l => cases l with
    | nil => rfl
    | cons y l => cases he
end
end Tr
end Go.Proofs.Ytlcchefiicalpaa
namespace Go.Proofs.Ytlcchefiicalpaa
open Go.RowKit
namespace Tr
section
variable {σ : Type} {S : Sto σ} {L : σ → List Nd.N} (M : List Nd.N)
theorem opn_cont (hS : Brings S L) {h : Nat} {st : σ} {p : Pt (h + 1)} {a : List (Pt h)} (hm : L st = M) (e : (opn S h st p).2 = .ok a) : L (opn S h st p).1 = M ∧ conts M a = cont M (h + 1) p := by
  cases p with
  | inl b =>
    unfold opn partsOf at e ⊢
    dsimp only at e ⊢
    have hs := hS.stays st b
    rcases hl : load S st b with ⟨st', e' | n⟩
    · rw [hl] at e; cases e
    · rw [hl] at e hs
      injection e with e
      subst e
      obtain ⟨e1, -, -⟩ := hS.node (st := st) (b := b) (n := n) (by rw [hl])
      refine ⟨hs.trans hm, ?_⟩
      rw [e1, hm]
      exact conts_parts M b
  | inr l =>
    injection e with e
    subst e
    exact ⟨hm, rfl⟩
def JnC (L : σ → List Nd.N) {h : Nat} (jn : σ → Pt (h + 1) → Pt (h + 1) → Res σ (Pt (h + 1))) : Prop := ∀ {st x y z}, L st = M → (jn st x y).2 = .ok z → L (jn st x y).1 = M ∧ cont M (h + 1) z = cont M (h + 1) x ++ cont M (h + 1) y
theorem conts_rev {h : Nat} (x : Pt h) (s : List (Pt h)) : conts M (x :: s).reverse = conts M s.reverse ++ cont M h x := by
  rw [List.reverse_cons, conts_app, conts_cons, conts_nil, List.append_nil]
theorem fitA_cont {h : Nat} {jn : σ → Pt (h + 1) → Pt (h + 1) → Res σ (Pt (h + 1))} (hj : JnC M L jn) : ∀ {l : List (Pt (h + 1))} {st : σ} {s r : List (Pt (h + 1))}, L st = M → (fitA jn l st s).2 = .ok r → L (fitA jn l st s).1 = M ∧ conts M r.reverse = conts M s.reverse ++ conts M l
  | [], st, s, r, hm, e => by injection e with e; subst e; exact ⟨hm, (List.append_nil _).symm⟩
  | x :: l, st, s, r, hm, e => by
    rw [conts_cons]
    unfold fitA at e ⊢
    by_cases hx : emp x = true
    · rw [if_pos hx] at e ⊢
      have := fitA_cont hj hm e
      exact ⟨this.1, by rw [this.2, emp_cont M hx]; rfl⟩
    · rw [if_neg hx] at e ⊢
      cases s with
      | nil =>
        have := fitA_cont hj hm e
        exact ⟨this.1, by rw [this.2, conts_rev, List.append_assoc]⟩
      | cons y s =>
        dsimp only at e ⊢
        by_cases hy : small y = true
        · rw [if_pos hy] at e ⊢
          rcases hz : jn st y x with ⟨st', e' | z⟩
          · rw [hz] at e; cases e
          · rw [hz] at e
            dsimp only at e ⊢
            obtain ⟨h1, h2⟩ := hj (st := st) (x := y) (y := x) (z := z) hm (by rw [hz])
            rw [hz] at h1
            have := fitA_cont hj h1 e
            exact ⟨this.1, by rw [this.2, conts_rev, conts_rev, h2]; simp only [List.append_assoc]⟩
        · rw [if_neg hy] at e ⊢
          have := fitA_cont hj hm e
          exact ⟨this.1, by rw [this.2, conts_rev, List.append_assoc]⟩
theorem fitB_cont {h : Nat} {jn : σ → Pt (h + 1) → Pt (h + 1) → Res σ (Pt (h + 1))} (hj : JnC M L jn) : ∀ {m : Nat} {st : σ} {s r : List (Pt (h + 1))}, L st = M → (fitB jn m st s).2 = .ok r → L (fitB jn m st s).1 = M ∧ conts M r.reverse = conts M s.reverse
  | 0, st, s, r, hm, e => by injection e with e; subst e; exact ⟨hm, rfl⟩
  | m + 1, st, [], r, hm, e => by injection e with e; subst e; exact ⟨hm, rfl⟩
  | m + 1, st, [x], r, hm, e => by injection e with e; subst e; exact ⟨hm, rfl⟩
  | m + 1, st, x :: y :: s, r, hm, e => by
    unfold fitB at e ⊢
    dsimp only at e ⊢
    by_cases hx : small x = true
    · rw [if_pos hx] at e ⊢
      rcases hz : jn st y x with ⟨st', e' | z⟩
      · rw [hz] at e; cases e
      · rw [hz] at e
        dsimp only at e ⊢
        obtain ⟨h1, h2⟩ := hj (st := st) (x := y) (y := x) (z := z) hm (by rw [hz])
        rw [hz] at h1
        have := fitB_cont hj h1 e
        exact ⟨this.1, by rw [this.2, conts_rev, conts_rev, conts_rev, h2]; simp only [List.append_assoc]⟩
    · rw [if_neg hx] at e ⊢
      injection e with e; subst e; exact ⟨hm, rfl⟩
theorem fitJ_cont {h : Nat} {jn : σ → Pt (h + 1) → Pt (h + 1) → Res σ (Pt (h + 1))} (hj : JnC M L jn) {st : σ} {l r : List (Pt (h + 1))} (hm : L st = M) (e : (fitJ jn st l).2 = .ok r) : L (fitJ jn st l).1 = M ∧ conts M r = conts M l := by
  unfold fitJ at e ⊢
  rcases h1 : fitA jn l st [] with ⟨st1, e' | s⟩
  · rw [h1] at e; cases e
  · rw [h1] at e
    dsimp only at e ⊢
    obtain ⟨a1, a2⟩ := fitA_cont M hj (l := l) (s := []) (r := s) hm (by rw [h1])
    rw [h1] at a1
    rcases h2 : fitB jn s.length st1 s with ⟨st2, e' | t⟩
    · rw [h2] at e; cases e
    · rw [h2] at e
      injection e with e
      subst e
      obtain ⟨b1, b2⟩ := fitB_cont M hj (m := s.length) (s := s) (r := t) a1 (by rw [h2])
      rw [h2] at b1
      refine ⟨b1, ?_⟩
      rw [split_cont, b2, a2]
      rfl
theorem join_cont (hS : Brings S L) : ∀ h : Nat, JnC (h := h) M L (join S h)
  | 0 => by
    rename_i st x y z
    intro hm e
    unfold join at e ⊢
    rcases h1 : opn S 0 st x with ⟨st1, e' | a⟩
    · rw [h1] at e; cases e
    · rw [h1] at e
      dsimp only at e ⊢
      obtain ⟨a1, a2⟩ := opn_cont M hS (p := x) (a := a) hm (by rw [h1])
      rw [h1] at a1
      rcases h2 : opn S 0 st1 y with ⟨st2, e' | b⟩
      · rw [h2] at e; cases e
      · rw [h2] at e
        injection e with e
        subst e
        obtain ⟨b1, b2⟩ := opn_cont M hS (p := y) (a := b) a1 (by rw [h2])
        rw [h2] at b1
        exact ⟨b1, by rw [cont_frs, conts_app, a2, b2]⟩
  | h + 1 => by
    rename_i st x y z
    intro hm e
    unfold join at e ⊢
    rcases h1 : opn S (h + 1) st x with ⟨st1, e' | a⟩
    · rw [h1] at e; cases e
    · rw [h1] at e
      dsimp only at e ⊢
      obtain ⟨a1, a2⟩ := opn_cont M hS (p := x) (a := a) hm (by rw [h1])
      rw [h1] at a1
      rcases h2 : opn S (h + 1) st1 y with ⟨st2, e' | b⟩
      · rw [h2] at e; cases e
      · rw [h2] at e
        dsimp only at e ⊢
        obtain ⟨b1, b2⟩ := opn_cont M hS (p := y) (a := b) a1 (by rw [h2])
        rw [h2] at b1
        rcases h3 : fitJ (join S h) st2 (a ++ b) with ⟨st3, e' | l⟩
        · rw [h3] at e; cases e
        · rw [h3] at e
          injection e with e
          subst e
          obtain ⟨c1, c2⟩ := fitJ_cont M (join_cont hS h) (l := a ++ b) (r := l) b1 (by rw [h3])
          rw [h3] at c1
          exact ⟨c1, by rw [cont_frs, c2, conts_app, a2, b2]⟩
/-- fit leaves the memory and what lies below. -/
theorem fit_cont (hS : Brings S L) {h : Nat} {st : σ} {l r : List (Pt (h + 1))} (hm : L st = M) (e : (fit S h st l).2 = .ok r) : L (fit S h st l).1 = M ∧ conts M r = conts M l := fitJ_cont M (join_cont M hS h) hm e
end
end Tr
end Go.Proofs.Ytlcchefiicalpaa
namespace Go.Proofs.Ytlcchefiicalpaa
open Go.RowKit
namespace Tr
theorem edGet_app : ∀ (a b : List Ed) (k : Int) (d : Option E), edGet (a ++ b) k d = edGet a k (edGet b k d)
  | [], _, _, _ => rfl
  | x :: a, b, k, d => by
    show (if x.x.k = k then _ else edGet (a ++ b) k d) = if x.x.k = k then _ else edGet a k (edGet b k d)
    rw [edGet_app a b]
theorem merged_split {e1 e2 : List Ed} {a r : List E} {t : Int} (he : AscP (e1 ++ e2)) (ha : Asc (a ++ r)) (h1 : ∀ x ∈ e1, x.x.k < t) (h2 : ∀ x ∈ e2, t ≤ x.x.k) (ha1 : ∀ e ∈ a, e.k < t) (hr : ∀ e ∈ r, t ≤ e.k) : merged (e1 ++ e2) (a ++ r) = merged e1 a ++ merged e2 r := by
  obtain ⟨p1, p2, -⟩ := List.pairwise_append.1 he
  obtain ⟨q1, q2, -⟩ := List.pairwise_append.1 ha
  have m1 : ∀ e ∈ merged e1 a, e.k < t := fun e h => by
    rcases merged_mem h with h | ⟨x, hx, -, rfl⟩
    · exact ha1 e h
    · exact h1 x hx
  have m2 : ∀ e ∈ merged e2 r, t ≤ e.k := fun e h => by
    rcases merged_mem h with h | ⟨x, hx, -, rfl⟩
    · exact hr e h
    · exact h2 x hx
  refine asc_ext (merged_asc ha he) (List.pairwise_append.2 ⟨merged_asc q1 p1, merged_asc q2 p2, fun x hx y hy => Int.lt_of_lt_of_le (m1 x hx) (m2 y hy)⟩) fun k => ?_
  rw [merged_get ha he, get_append, get_append, merged_get q1 p1, merged_get q2 p2, edGet_app]
  by_cases hk : k < t
  · have n2 : ∀ d, edGet e2 k d = d := fun d => edGet_none fun x hx => by have := h2 x hx; omega
    have nr : get r k = none := get_none fun e h => by have := hr e h; omega
    rw [n2, n2, nr, Option.or_none, Option.or_none]
  · have n1 : ∀ d, edGet e1 k d = d := fun d => edGet_none fun x hx => by have := h1 x hx; omega
    have na : get a k = none := get_none fun e h => by have := ha1 e h; omega
    rw [n1, n1, na, Option.none_or, Option.none_or]
theorem merged_nil (l : List E) : merged [] l = l := rfl
/-- The entries of a child with the edits below its end, then the rest. -/
theorem merged_at {eds : List Ed} {a r : List E} {t : Int} (he : AscP eds) (ha : Asc (a ++ r)) (ha1 : ∀ e ∈ a, e.k < t) (hr : ∀ e ∈ r, t ≤ e.k) : merged eds (a ++ r) = merged (eds.take (cnt eds t)) a ++ merged (eds.drop (cnt eds t)) r := by
  obtain ⟨c1, c2⟩ := cnt_split (t := t) he
  have e : eds.take (cnt eds t) ++ eds.drop (cnt eds t) = eds := List.take_append_drop _ _
  have := merged_split (e1 := eds.take (cnt eds t)) (e2 := eds.drop (cnt eds t)) (by rw [e]; exact he) ha c1 c2 ha1 hr
  rw [e] at this
  exact this
end Tr
end Go.Proofs.Ytlcchefiicalpaa
namespace Go.Proofs.Ytlcchefiicalpaa
open Go.RowKit
namespace Tr
section
variable {σ : Type} {S : Sto σ} {L : σ → List Nd.N} (M : List Nd.N)
def EdC (L : σ → List Nd.N) {h : Nat} (ed : σ → Br → List Ed → Res σ (List (Pt h) × Bool)) : Prop := ∀ {st b eds l c}, L st = M → Good M h b.k.1 b.f b.t → AscP eds → (∀ x ∈ eds, x.x.k < b.t) → (ed st b eds).2 = .ok (l, c) → L (ed st b eds).1 = M ∧ (c = true → conts M l = merged eds (ent M h b.k.1)) ∧ (c = false → merged eds (ent M h b.k.1) = ent M h b.k.1)
theorem kids_asc {h : Nat} {bs : List Br} (hg : ∀ b ∈ bs, Good M h b.k.1 b.f b.t) (hp : bs.Pairwise fun x y => x.t ≤ y.f) : Asc (bs.flatMap fun b => ent M h b.k.1) :=
  pairwise_flat hp (fun x hx => (hg x hx).asc) fun x hx y hy hxy a ha b hb => by
    have h1 := (hg x hx).within a ha
    have h2 := (hg y hy).within b hb
    omega
theorem edKids_cont {h : Nat} {ed : σ → Br → List Ed → Res σ (List (Pt h) × Bool)} (he : EdC M L ed) : ∀ {bs : List Br} {st : σ} {eds : List Ed} {l : List (Pt (h + 1))} {c : Bool}, L st = M → (∀ b ∈ bs, Good M h b.k.1 b.f b.t) → bs.Pairwise (fun x y => x.t ≤ y.f) → AscP eds → (∀ x ∈ eds, ∃ b ∈ bs, x.x.k < b.t) → (edKids ed bs st eds).2 = .ok (l, c) →
    L (edKids ed bs st eds).1 = M ∧ conts M l = merged eds (bs.flatMap fun b => ent M h b.k.1) ∧ (c = false → merged eds (bs.flatMap fun b => ent M h b.k.1) = bs.flatMap fun b => ent M h b.k.1)
  | [], st, eds, l, c, hm, hg, hp, ha, hx, e => by
    injection e with e
    injection e with e1 e2
    subst e1
    cases eds with
    | nil => exact ⟨hm, rfl, fun _ => rfl⟩
    | cons x xs =>
      obtain ⟨b, hb, -⟩ := hx x (List.mem_cons_self ..)
      cases hb
  | b :: bs, st, eds, l, c, hm, hg, hp, ha, hx, e => by
    have g0 := hg b (List.mem_cons_self ..)
    have gs : ∀ x ∈ bs, Good M h x.k.1 x.f x.t := fun x hx => hg x (List.mem_cons_of_mem _ hx)
    obtain ⟨p0, ps⟩ := List.pairwise_cons.1 hp
    have hE : ((b :: bs).flatMap fun b => ent M h b.k.1) = ent M h b.k.1 ++ bs.flatMap fun b => ent M h b.k.1 := List.flatMap_cons
    have hA := kids_asc M hg hp
    rw [hE] at hA ⊢
    obtain ⟨c1, c2⟩ := cnt_split (t := b.t) ha
    have hM := merged_at (t := b.t) ha hA (fun e he => (g0.within e he).2) (fun e he => by
      obtain ⟨x, hx, hxe⟩ := List.mem_flatMap.1 he
      have h1 := (gs x hx).within e hxe
      have h2 := p0 x hx
      omega)
    have hd : ∀ x ∈ eds.drop (cnt eds b.t), ∃ b ∈ bs, x.x.k < b.t := fun x hxd => by
      obtain ⟨y, hy, hyt⟩ := hx x (List.mem_of_mem_drop hxd)
      rcases List.mem_cons.1 hy with rfl | hy
      · have := c2 x hxd; omega
      · exact ⟨y, hy, hyt⟩
    have at_ := ascP_take ha (cnt eds b.t)
    have ad := ascP_drop ha (cnt eds b.t)
    rw [hM]
    unfold edKids at e ⊢
    by_cases h0 : cnt eds b.t = 0
    · rw [if_pos h0] at e ⊢
      rw [h0, List.drop_zero] at hd ad ⊢
      rw [List.take_zero, merged_nil]
      rcases h1 : edKids ed bs st eds with ⟨s1, er | ⟨m, d⟩⟩
      · rw [h1] at e; cases e
      · rw [h1] at e
        injection e with e
        injection e with e1 e2
        subst e1
        subst e2
        obtain ⟨a1, a2, a3⟩ := edKids_cont he (bs := bs) (eds := eds) (l := m) (c := d) hm gs ps ad hd (by rw [h1])
        rw [h1] at a1
        exact ⟨a1, by rw [conts_cons, cont_old, a2], fun hc => by rw [a3 hc]⟩
    · rw [if_neg h0] at e ⊢
      rcases h2 : ed st b (eds.take (cnt eds b.t)) with ⟨s2, er | ⟨below, is⟩⟩
      · rw [h2] at e; cases e
      · rw [h2] at e
        dsimp only at e ⊢
        obtain ⟨w1, w2, w3⟩ := he (st := st) (b := b) (eds := eds.take (cnt eds b.t)) (l := below) (c := is) hm g0 at_ c1 (by rw [h2])
        rw [h2] at w1
        rcases h1 : edKids ed bs s2 (eds.drop (cnt eds b.t)) with ⟨s1, er | ⟨m, d⟩⟩
        · rw [h1] at e; cases e
        · rw [h1] at e
          injection e with e
          injection e with e1 e2
          subst e1
          subst e2
          obtain ⟨a1, a2, a3⟩ := edKids_cont he (bs := bs) (l := m) (c := d) w1 gs ps ad hd (by rw [h1])
          rw [h1] at a1
          refine ⟨a1, ?_, fun hc => ?_⟩
          · rw [conts_cons, a2]
            cases is
            · rw [if_neg (by decide), cont_old, w3 rfl]
            · rw [if_pos rfl, cont_frs, w2 rfl]
          · cases is
            · rw [w3 rfl, a3 hc]
            · cases hc
theorem edited_cont (hS : Brings S L) : ∀ h, EdC M L (edited S h)
  | 0 => by
    rename_i st b eds l c
    intro hm hg ha hx e
    unfold edited at e ⊢
    have hs := hS.stays st b
    rcases h1 : load S st b with ⟨s1, er | n⟩
    · rw [h1] at e; cases e
    · rw [h1] at e hs
      injection e with e
      injection e with e1 e2
      subst e1
      obtain ⟨e1, -, -⟩ := hS.node (st := st) (b := b) (n := n) (by rw [h1])
      rw [hm] at e1
      subst e1
      refine ⟨hs.trans hm, fun _ => conts_zero M _, fun hc => ?_⟩
      subst hc
      have e3 : leaf (nd M b.k.1) = merged eds (leaf (nd M b.k.1)) := by simpa using e2
      exact e3.symm
  | h + 1 => by
    rename_i st b eds l c
    intro hm hg ha hx e
    unfold edited at e ⊢
    have hs := hS.stays st b
    rcases h1 : load S st b with ⟨s1, er | n⟩
    · rw [h1] at e; cases e
    · rw [h1] at e hs
      dsimp only at e hs ⊢
      obtain ⟨e1, -, -⟩ := hS.node (st := st) (b := b) (n := n) (by rw [h1])
      rw [hm] at e1
      subst e1
      have hE : ((kidsB b (nd M b.k.1)).flatMap fun c => ent M h c.k.1) = ent M (h + 1) b.k.1 := by
        unfold kidsB
        rw [List.flatMap_map]
        rfl
      have hok := hg.ok
      rcases h2 : edKids (edited S h) (kidsB b (nd M b.k.1)) s1 eds with ⟨s2, er | ⟨m, d⟩⟩
      · rw [h2] at e; cases e
      · rw [h2] at e
        dsimp only at e ⊢
        obtain ⟨a1, a2, a3⟩ := edKids_cont M (edited_cont hS h) (bs := kidsB b (nd M b.k.1)) (eds := eds) (l := m) (c := d) (hs.trans hm) (fun x hx => by
          obtain ⟨i, hi, rfl⟩ := List.mem_map.1 hx
          exact hg.kid (List.mem_range.1 hi)) (by
          unfold kidsB
          rw [List.pairwise_map]
          refine List.Pairwise.imp_of_mem (fun {i j} _ hj hij => ?_) (range_lt _)
          exact next_le hok (t := b.t) (fun i hi => (hg.key hi).2) hij (List.mem_range.1 hj)) ha (fun x hxe => by
          have hn := (hok.inner (by rw [hg.height]; omega)).2.1
          refine ⟨kidB b (nd M b.k.1) ((nd M b.k.1).ks.length - 1), List.mem_map.2 ⟨_, List.mem_range.2 (by omega), rfl⟩, ?_⟩
          show x.x.k < next (nd M b.k.1) b.t ((nd M b.k.1).ks.length - 1)
          unfold next
          rw [if_neg (by omega)]
          exact hx x hxe) (by rw [h2])
        rw [h2] at a1
        rw [hE] at a2 a3
        cases d
        · rw [if_neg (by decide)] at e ⊢
          injection e with e
          injection e with e1 e2
          subst e2
          exact ⟨a1, (fun hc => by cases hc), fun _ => a3 rfl⟩
        · rw [if_pos rfl] at e ⊢
          rcases h3 : fit S h s2 m with ⟨s3, er | r⟩
          · rw [h3] at e; cases e
          · rw [h3] at e
            injection e with e
            injection e with e1 e2
            subst e1
            subst e2
            obtain ⟨b1, b2⟩ := fit_cont M hS (l := m) (r := r) a1 (by rw [h3])
            rw [h3] at b1
            exact ⟨b1, (fun _ => b2.trans a2), (fun hc => by cases hc)⟩
end
end Tr
end Go.Proofs.Ytlcchefiicalpaa
namespace Go.Proofs.Ytlcchefiicalpaa
open Go.RowKit
namespace Tr
/-- What is saved lies behind what was there, at the place that is told; a failed save changes nothing. -/
structure Keeps {σ : Type} (S : Sto σ) (L : σ → List Nd.N) : Prop where
  good : ∀ {st n k}, (S.sv st n).2 = .ok k → L (S.sv st n).1 = L st ++ [n] ∧ k.1 = ((L st).length : Int) + 2
  bad : ∀ {st n e}, (S.sv st n).2 = .error e → L (S.sv st n).1 = L st
theorem nd_new (M : List Nd.N) (n : Nd.N) : nd (M ++ [n]) ((M.length : Int) + 2) = n ∧ In (M ++ [n]) ((M.length : Int) + 2) := by
  refine ⟨?_, by omega, by rw [List.length_append, List.length_singleton]; omega⟩
  unfold nd
  have e : ((M.length : Int) + 2 - 2).toNat = M.length := by omega
  rw [e, List.getD_eq_getElem?_getD, List.getElem?_append_right (Nat.le_refl _), Nat.sub_self]
  rfl
section
variable {σ : Type} {S : Sto σ} {L : σ → List Nd.N}
theorem leafN_leaf (l : List E) : leaf (leafN l) = l := by
  unfold leaf leafN leafE
  refine List.ext_getElem (by simp) fun i h1 h2 => ?_
  simp only [List.getElem_map, List.getElem_range, Nd.at_, Nd.t3, List.getD_eq_getElem?_getD, List.getElem?_map, List.getElem?_eq_getElem h2, Option.map_some, Option.getD_some]
end
end Tr
end Go.Proofs.Ytlcchefiicalpaa
namespace Go.Proofs.Ytlcchefiicalpaa
open Go.RowKit
namespace Tr
/-- What a result is, an error or an answer. -/
def Ends {σ α : Type} (r : Res σ α) (Q : σ → α → Prop) (E : σ → Int → Prop) : Prop := match r with
  | (st, .error e) => E st e
  | (st, .ok x) => Q st x
theorem Ends.mono {σ α : Type} {r : Res σ α} {Q Q' : σ → α → Prop} {E E' : σ → Int → Prop} (h : Ends r Q E) (hQ : ∀ st x, Q st x → Q' st x) (hE : ∀ st e, E st e → E' st e) : Ends r Q' E' := by
  rcases r with ⟨st, e | x⟩
  · exact hE _ _ h
  · exact hQ _ _ h
theorem Ends.ok {σ α : Type} {r : Res σ α} {Q : σ → α → Prop} {E : σ → Int → Prop} (h : Ends r Q E) {x : α} (e : r.2 = .ok x) : Q r.1 x := by
  rcases r with ⟨st, e' | y⟩
  · cases e
  · injection e with e; subst e; exact h
theorem Ends.bad {σ α : Type} {r : Res σ α} {Q : σ → α → Prop} {E : σ → Int → Prop} (h : Ends r Q E) {x : Int} (e : r.2 = .error x) : E r.1 x := by
  rcases r with ⟨st, e' | y⟩
  · injection e with e; subst e; exact h
  · cases e
theorem Ends.and_ {σ α : Type} {r : Res σ α} {Q Q' : σ → α → Prop} {E E' : σ → Int → Prop} (h : Ends r Q E) (k : Ends r Q' E') : Ends r (fun st x => Q st x ∧ Q' st x) (fun st e => E st e ∧ E' st e) := by
  rcases r with ⟨st, e' | y⟩
  · exact ⟨h, k⟩
  · exact ⟨h, k⟩
section
variable {σ : Type} {h : Nat} {jn : σ → Pt (h + 1) → Pt (h + 1) → Res σ (Pt (h + 1))} {R : σ → List (Pt (h + 1)) → Prop} {E : σ → Int → Prop}
theorem fitA_rule (hd : ∀ {st : σ} {a b : List (Pt (h + 1))} {x : Pt (h + 1)}, emp x = true → R st (a ++ x :: b) → R st (a ++ b)) (hj : ∀ {st : σ} {a b : List (Pt (h + 1))} {y x : Pt (h + 1)}, (small y = true ∨ small x = true) → R st (a ++ y :: x :: b) → Ends (jn st y x) (fun st z => R st (a ++ z :: b)) E) :
    ∀ {l : List (Pt (h + 1))} {st : σ} {s : List (Pt (h + 1))}, R st (s.reverse ++ l) → (∀ x ∈ s.tail, small x = false) → Ends (fitA jn l st s) (fun st r => R st r.reverse ∧ ∀ x ∈ r.tail, small x = false) E
  | [], st, s, hr, ht => by
    rw [List.append_nil] at hr
    exact ⟨hr, ht⟩
  | x :: l, st, s, hr, ht => by
    unfold fitA
    by_cases hx : emp x = true
    · rw [if_pos hx]
      exact fitA_rule hd hj (hd hx hr) ht
    · rw [if_neg hx]
      cases s with
      | nil => exact fitA_rule hd hj (s := [x]) (by simpa using hr) (fun y hy => by cases hy)
      | cons y s =>
        dsimp only
        rw [List.reverse_cons, List.append_assoc] at hr
        by_cases hy : small y = true
        · rw [if_pos hy]
          have hz := hj (.inl hy) hr
          rcases hjn : jn st y x with ⟨st', e | z⟩
          · rw [hjn] at hz; exact hz
          · rw [hjn] at hz
            exact fitA_rule hd hj (s := z :: s) (by rw [List.reverse_cons, List.append_assoc]; exact hz) ht
        · rw [if_neg hy]
          refine fitA_rule hd hj (s := x :: y :: s) (by rw [List.reverse_cons, List.reverse_cons, List.append_assoc, List.append_assoc]; exact hr) fun q hq => ?_
          rcases List.mem_cons.1 hq with rfl | hq
          · simpa using hy
          · exact ht q hq
theorem fitB_rule (hj : ∀ {st : σ} {a b : List (Pt (h + 1))} {y x : Pt (h + 1)}, (small y = true ∨ small x = true) → R st (a ++ y :: x :: b) → Ends (jn st y x) (fun st z => R st (a ++ z :: b)) E) :
    ∀ {m : Nat} {st : σ} {s : List (Pt (h + 1))}, s.length ≤ m → R st s.reverse → (∀ x ∈ s.tail, small x = false) → Ends (fitB jn m st s) (fun st r => R st r.reverse ∧ (r.length ≤ 1 ∨ ∀ x ∈ r, small x = false)) E
  | 0, st, s, hm, hr, ht => ⟨hr, .inl (by omega)⟩
  | m + 1, st, [], hm, hr, ht => ⟨hr, .inl (Nat.zero_le _)⟩
  | m + 1, st, [x], hm, hr, ht => ⟨hr, .inl (Nat.le_refl _)⟩
  | m + 1, st, x :: y :: s, hm, hr, ht => by
    unfold fitB
    dsimp only
    by_cases hx : small x = true
    · rw [if_pos hx]
      have hz := hj (st := st) (a := s.reverse) (b := []) (y := y) (x := x) (.inr hx) (by rw [List.reverse_cons, List.reverse_cons, List.append_assoc] at hr; exact hr)
      rcases hjn : jn st y x with ⟨st', e | z⟩
      · rw [hjn] at hz; exact hz
      · rw [hjn] at hz
        exact fitB_rule hj (s := z :: s) (by simp only [List.length_cons] at hm ⊢; omega) (by rw [List.reverse_cons]; exact hz) fun q hq => ht q (List.mem_cons_of_mem _ hq)
    · rw [if_neg hx]
      refine ⟨hr, .inr fun q hq => ?_⟩
      rcases List.mem_cons.1 hq with rfl | hq
      · simpa using hx
      · exact ht q hq
theorem fitJ_rule (hd : ∀ {st : σ} {a b : List (Pt (h + 1))} {x : Pt (h + 1)}, emp x = true → R st (a ++ x :: b) → R st (a ++ b)) (hj : ∀ {st : σ} {a b : List (Pt (h + 1))} {y x : Pt (h + 1)}, (small y = true ∨ small x = true) → R st (a ++ y :: x :: b) → Ends (jn st y x) (fun st z => R st (a ++ z :: b)) E) {l : List (Pt (h + 1))} {st : σ} (hr : R st l) :
    Ends (fitJ jn st l) (fun st r => ∃ s, r = split s ∧ R st s ∧ (s.length ≤ 1 ∨ ∀ x ∈ s, small x = false)) E := by
  have hA := fitA_rule hd hj (l := l) (st := st) (s := []) (by simpa using hr) (fun y hy => by cases hy)
  unfold fitJ
  rcases h1 : fitA jn l st [] with ⟨st1, e | s⟩
  · rw [h1] at hA; exact hA
  · rw [h1] at hA
    have hB := fitB_rule hj (m := s.length) (st := st1) (s := s) (Nat.le_refl _) hA.1 hA.2
    dsimp only
    rcases h2 : fitB jn s.length st1 s with ⟨st2, e | t⟩
    · rw [h2] at hB; exact hB
    · rw [h2] at hB
      refine ⟨t.reverse, rfl, hB.1, ?_⟩
      rcases hB.2 with c | c
      · exact .inl (by rw [List.length_reverse]; exact c)
      · exact .inr fun x hx => c x (List.mem_reverse.1 hx)
end
/-- How many children a part becomes; how many nodes a list of n parts may cost. -/
def pn {h : Nat} : Pt (h + 1) → Nat
  | .inl _ => 1
  | .inr l => (l.length + 7) / 8
def pns {h : Nat} (l : List (Pt (h + 1))) : Nat := (l.map pn).sum
def own (n : Nat) : Nat := if n < 4 then 2 else (n + 7) / 8
def pot : (h : Nat) → Pt h → Nat
  | 0, _ => 0
  | _ + 1, .inl _ => 0
  | h + 1, .inr l => (l.map (pot h)).sum + own l.length
def pots {h : Nat} (l : List (Pt h)) : Nat := (l.map (pot h)).sum
/-- Fresh lists are no longer than a node: all of them; all but the first. -/
def Thin : (h : Nat) → Pt h → Prop
  | 0, _ => True
  | _ + 1, .inl _ => True
  | h + 1, .inr l => l.length ≤ 8 ∧ ∀ q ∈ l, Thin h q
def Semi {h : Nat} : Pt (h + 1) → Prop
  | .inl _ => True
  | .inr l => ∀ q ∈ l, Thin h q
theorem Thin.semi {h : Nat} {p : Pt (h + 1)} (hp : Thin (h + 1) p) : Semi p := by
  cases p with
  | inl b => trivial
  | inr l => exact hp.2
theorem Thin.pn {h : Nat} {p : Pt (h + 1)} (hp : Thin (h + 1) p) : pn p ≤ 1 := by
  cases p with
  | inl b => exact Nat.le_refl _
  | inr l => have := hp.1; show (l.length + 7) / 8 ≤ 1; omega
theorem pns_cons {h : Nat} (x : Pt (h + 1)) (l : List (Pt (h + 1))) : pns (x :: l) = pn x + pns l := by unfold pns; rw [List.map_cons, List.sum_cons]
theorem pns_app {h : Nat} (a b : List (Pt (h + 1))) : pns (a ++ b) = pns a + pns b := by unfold pns; rw [List.map_append, List.sum_append]
theorem pots_cons {h : Nat} (x : Pt h) (l : List (Pt h)) : pots (x :: l) = pot h x + pots l := by unfold pots; rw [List.map_cons, List.sum_cons]
theorem pots_app {h : Nat} (a b : List (Pt h)) : pots (a ++ b) = pots a + pots b := by unfold pots; rw [List.map_append, List.sum_append]
theorem pots_nil {h : Nat} : pots ([] : List (Pt h)) = 0 := rfl
theorem pots_zero : ∀ l : List (Pt 0), pots l = 0
  | [] => rfl
  | x :: l => by rw [pots_cons, pots_zero l]; rfl
theorem pot_frs {h : Nat} (l : List (Pt h)) : pot (h + 1) (frs l) = pots l + own l.length := rfl
theorem pot_old {h : Nat} (b : Br) : pot (h + 1) (old (h := h) b) = 0 := rfl
theorem pots_old {h : Nat} : ∀ l : List Br, pots (l.map (old (h := h))) = 0
  | [] => rfl
  | b :: l => by rw [List.map_cons, pots_cons, pots_old l]; rfl
theorem thins_pns {h : Nat} : ∀ {l : List (Pt (h + 1))}, (∀ q ∈ l, Thin (h + 1) q) → pns l ≤ l.length
  | [], _ => Nat.le_refl _
  | x :: l, hl => by
    have h1 := (hl x (List.mem_cons_self ..)).pn
    have h2 := thins_pns (l := l) fun q hq => hl q (List.mem_cons_of_mem _ hq)
    rw [pns_cons, List.length_cons]
    omega
theorem own_le (n : Nat) : own n ≤ max 2 ((n + 7) / 8) := by unfold own; split <;> omega
theorem own_pos (n : Nat) : 1 ≤ own n := by unfold own; split <;> omega
/-- The pieces of a list. -/
theorem lo_step8 {n i : Nat} (hn : 0 < n) : lo n ((n + 7) / 8) (i + 1) - lo n ((n + 7) / 8) i ≤ 8 := by
  obtain ⟨c, hc⟩ : ∃ c, (n + 7) / 8 = c := ⟨_, rfl⟩
  rw [hc]
  have h1 : 0 < c := by omega
  have h2 : n ≤ 8 * c := by omega
  unfold lo
  have h3 : (i + 1) * n / c ≤ i * n / c + 8 := by
    rw [← Nat.add_mul_div_right _ 8 h1]
    exact Nat.div_le_div_right (by rw [Nat.add_mul, Nat.one_mul]; exact Nat.add_le_add_left h2 _)
  omega
theorem lo_step4 {n i : Nat} (hn : 9 ≤ n) : lo n ((n + 7) / 8) i + 4 ≤ lo n ((n + 7) / 8) (i + 1) := by
  obtain ⟨c, hc⟩ : ∃ c, (n + 7) / 8 = c := ⟨_, rfl⟩
  rw [hc]
  have h1 : 0 < c := by omega
  have h2 : 4 * c ≤ n := by omega
  unfold lo
  rw [← Nat.add_mul_div_right _ 4 h1]
  exact Nat.div_le_div_right (by rw [Nat.add_mul, Nat.one_mul]; exact Nat.add_le_add_left h2 _)
theorem cut1_len {h : Nat} (l : List (Pt h)) {c i : Nat} (hi : i < c) : (cut1 l c i).length = lo l.length c (i + 1) - lo l.length c i := by
  have h1 := lo_le (n := l.length) (c := c) (i := i + 1) hi (by omega)
  unfold cut1
  rw [List.length_take, List.length_drop]
  unfold lo at h1 ⊢
  omega
theorem piece_len {h : Nat} {l : List (Pt h)} {p : Pt (h + 1)} (hp : p ∈ pieces l) : ∃ m, p = frs m ∧ (∀ q ∈ m, q ∈ l) ∧ m.length ≤ 8 ∧ (9 ≤ l.length → 4 ≤ m.length) := by
  rw [pieces_is] at hp
  obtain ⟨i, hi, rfl⟩ := List.mem_map.1 hp
  have hi := List.mem_range.1 hi
  have hl := cut1_len l hi
  refine ⟨_, rfl, fun q hq => cut1_mem hq, ?_, fun h9 => ?_⟩
  · rw [hl]; exact lo_step8 (by omega)
  · rw [hl]; have := lo_step4 (n := l.length) (i := i) h9; omega
theorem pieces_nil {h : Nat} : pieces ([] : List (Pt h)) = [] := by simp [pieces]
theorem pieces_len' {h : Nat} (l : List (Pt h)) : (pieces l).length = (l.length + 7) / 8 := by unfold pieces; rw [List.length_map, List.length_range]
theorem pieces_one {h : Nat} {l : List (Pt h)} (h0 : l ≠ []) (h8 : l.length ≤ 8) : pieces l = [frs l] := by
  have hp : 0 < l.length := List.length_pos_iff.2 h0
  have hc : (l.length + 7) / 8 = 1 := by omega
  rw [pieces_is, hc]
  show [frs (cut1 l 1 0)] = [frs l]
  unfold cut1
  rw [lo_zero, Nat.zero_add, lo_all (by decide), List.drop_zero, Nat.sub_zero, List.take_length]
theorem pots_cut {h : Nat} (l : List (Pt h)) (c : Nat) (hc : ∀ i, i < c → own (cut1 l c i).length = 1) : ∀ k : Nat, k ≤ c → pots ((List.range k).map fun i => frs (cut1 l c i)) = pots (l.take (lo l.length c k)) + k
  | 0, _ => by rw [lo_zero, List.take_zero]; rfl
  | k + 1, hk => by
    rw [List.range_succ, List.map_append, pots_app, pots_cut l c hc k (by omega)]
    have e : lo l.length c (k + 1) = lo l.length c k + (lo l.length c (k + 1) - lo l.length c k) := by have := lo_mono (n := l.length) (c := c) (i := k); omega
    rw [e, List.take_add, pots_app]
    have : pots [frs (cut1 l c k)] = pots (cut1 l c k) + 1 := by rw [pots_cons, pots_nil, pot_frs, hc k (by omega)]
    show _ + pots [frs (cut1 l c k)] = _
    rw [this]
    show _ + (pots (cut1 l c k) + 1) = _ + pots (cut1 l c k) + (k + 1)
    omega
theorem pieces_pots {h : Nat} (l : List (Pt h)) : pots (pieces l) ≤ pots l + own l.length := by
  by_cases h0 : l = []
  · subst h0; rw [pieces_nil]; exact Nat.zero_le _
  · by_cases h8 : l.length ≤ 8
    · rw [pieces_one h0 h8, pots_cons, pots_nil, pot_frs]; exact Nat.le_refl _
    · have hc : 0 < (l.length + 7) / 8 := by omega
      have := pots_cut l ((l.length + 7) / 8) (fun i hi => by
        have h1 := cut1_len l hi
        have h2 := lo_step4 (n := l.length) (i := i) (by omega)
        have h3 := lo_step8 (n := l.length) (i := i) (by omega)
        unfold own
        rw [if_neg (by omega)]
        omega) _ (Nat.le_refl _)
      rw [pieces_is, this, lo_all hc, List.take_length]
      have : own l.length = (l.length + 7) / 8 := by unfold own; rw [if_neg (by omega)]
      omega
theorem pieces_thin {h : Nat} {l : List (Pt h)} (hl : ∀ q ∈ l, Thin h q) : ∀ p ∈ pieces l, Thin (h + 1) p := fun p hp => by
  obtain ⟨m, rfl, h1, h2, -⟩ := piece_len hp
  exact ⟨h2, fun q hq => hl q (h1 q hq)⟩
/-- Split: every fresh list fits; as many parts as were told; no more nodes. -/
theorem split_slim {h : Nat} : ∀ {l : List (Pt (h + 1))}, (∀ q ∈ l, Semi q) → (∀ q ∈ split l, Thin (h + 1) q) ∧ (split l).length = pns l ∧ pots (split l) ≤ pots l
  | [], _ => ⟨(fun q hq => by cases hq), rfl, Nat.le_refl _⟩
  | x :: l, hl => by
    have h0 := hl x (List.mem_cons_self ..)
    obtain ⟨h1, h2, h3⟩ := split_slim (l := l) fun q hq => hl q (List.mem_cons_of_mem _ hq)
    rcases (show (∃ b, x = old b) ∨ ∃ m, x = frs m by cases x with | inl b => exact .inl ⟨b, rfl⟩ | inr m => exact .inr ⟨m, rfl⟩) with ⟨b, rfl⟩ | ⟨m, rfl⟩
    · have e : split (old b :: l) = old b :: split l := rfl
      rw [e, pns_cons, pots_cons, pots_cons, List.length_cons, h2]
      refine ⟨fun q hq => ?_, ?_, by omega⟩
      · rcases List.mem_cons.1 hq with rfl | hq
        · trivial
        · exact h1 q hq
      · show pns l + 1 = 1 + pns l
        omega
    · have e : split (frs m :: l) = pieces m ++ split l := rfl
      rw [e, pns_cons, pots_app, pots_cons, List.length_append, h2, pieces_len', pot_frs]
      refine ⟨fun q hq => ?_, rfl, ?_⟩
      · rcases List.mem_append.1 hq with hq | hq
        · exact pieces_thin h0 q hq
        · exact h1 q hq
      · have := pieces_pots m
        omega
section
variable {σ : Type} (S : Sto σ)
/-- What a part costs beside what lies below it. -/
def ow {h : Nat} : Pt (h + 1) → Nat
  | .inl _ => 0
  | .inr l => own l.length
theorem opn_slim {h : Nat} {st : σ} {p : Pt (h + 1)} (hp : Semi p) : Ends (opn S h st p) (fun _ a => (∀ q ∈ a, Thin h q) ∧ pots a + ow p ≤ pot (h + 1) p ∧ (a.length + 7) / 8 ≤ pn p ∧ (a.length ≤ 8 ∨ own a.length ≤ ow p) ∧ (small p = true → a.length < 4 ∧ ow p = 2)) (fun _ _ => True) := by
  cases p with
  | inl b =>
    unfold opn partsOf
    dsimp only
    rcases hl : load S st b with ⟨st', e' | n⟩
    · trivial
    · have hf := load_fits' S (st := st) (b := b) (n := n) (by rw [hl])
      have h8 := hf.1.few
      have hln : (parts h b n).length = n.ks.length := by
        cases h with
        | zero => exact (List.length_map ..).trans (List.length_range ..)
        | succ h => exact (List.length_map ..).trans (kids_len b n)
      refine ⟨fun q hq => ?_, ?_, ?_, ?_, fun hs => by cases hs⟩
      · cases h with
        | zero => trivial
        | succ h =>
          obtain ⟨c, -, rfl⟩ := List.mem_map.1 hq
          trivial
      · show pots (parts h b n) + 0 ≤ 0
        cases h with
        | zero => rw [pots_zero]; exact Nat.le_refl _
        | succ h => exact Nat.le_of_eq (pots_old (kidsB b n))
      · show _ ≤ 1
        rw [hln]; omega
      · left; rw [hln]; exact h8
  | inr l =>
    refine ⟨hp, Nat.le_refl _, Nat.le_refl _, .inr (Nat.le_refl _), fun hs => ?_⟩
    have : l.length < 4 := by simpa [small] using hs
    refine ⟨this, ?_⟩
    show own l.length = 2
    unfold own
    rw [if_pos this]
def SlimJ {h : Nat} (jn : σ → Pt (h + 1) → Pt (h + 1) → Res σ (Pt (h + 1))) : Prop := ∀ {st : σ} {y x : Pt (h + 1)}, Semi y → Semi x → (small y = true ∨ small x = true) → Ends (jn st y x) (fun _ z => Semi z ∧ pn z ≤ pn y + pn x ∧ pot (h + 1) z ≤ pot (h + 1) y + pot (h + 1) x) (fun _ _ => True)
theorem fitJ_slim {h : Nat} {jn : σ → Pt (h + 1) → Pt (h + 1) → Res σ (Pt (h + 1))} (hj : SlimJ jn) {st : σ} {l : List (Pt (h + 1))} (hl : ∀ q ∈ l, Semi q) : Ends (fitJ jn st l) (fun _ r => (∀ q ∈ r, Thin (h + 1) q) ∧ r.length ≤ pns l ∧ pots r ≤ pots l) (fun _ _ => True) := by
  refine (fitJ_rule (jn := jn) (R := fun _ m => (∀ q ∈ m, Semi q) ∧ pns m ≤ pns l ∧ pots m ≤ pots l) (E := fun _ _ => True) ?_ ?_ (l := l) (st := st) ⟨hl, Nat.le_refl _, Nat.le_refl _⟩).mono ?_ fun _ _ _ => trivial
  · rintro st a b x - ⟨h1, h2, h3⟩
    rw [pns_app, pns_cons] at h2
    rw [pots_app, pots_cons] at h3
    refine ⟨fun q hq => h1 q ?_, by rw [pns_app]; omega, by rw [pots_app]; omega⟩
    rcases List.mem_append.1 hq with hq | hq
    · exact List.mem_append_left _ hq
    · exact List.mem_append_right _ (List.mem_cons_of_mem _ hq)
  · rintro st a b y x hs ⟨h1, h2, h3⟩
    rw [pns_app, pns_cons, pns_cons] at h2
    rw [pots_app, pots_cons, pots_cons] at h3
    refine (hj (h1 y (by simp)) (h1 x (by simp)) hs).mono (fun _ z hz => ?_) fun _ _ _ => trivial
    obtain ⟨z1, z2, z3⟩ := hz
    refine ⟨fun q hq => ?_, by rw [pns_app, pns_cons]; omega, by rw [pots_app, pots_cons]; omega⟩
    rcases List.mem_append.1 hq with hq | hq
    · exact h1 q (List.mem_append_left _ hq)
    · rcases List.mem_cons.1 hq with rfl | hq
      · exact z1
      · exact h1 q (by simp [hq])
  · rintro st r ⟨s, rfl, ⟨h1, h2, h3⟩, -⟩
    obtain ⟨s1, s2, s3⟩ := split_slim h1
    exact ⟨s1, by omega, by omega⟩
theorem own_join {n a b oy ox : Nat} (hn : n ≤ a + b) (ha : a ≤ 8 ∨ own a ≤ oy) (hb : b ≤ 8 ∨ own b ≤ ox) (hs : (a < 4 ∧ oy = 2) ∨ (b < 4 ∧ ox = 2)) : own n ≤ oy + ox := by
  have h1 := own_le n
  have h2 : (a + 7) / 8 ≤ own a := by unfold own; split <;> omega
  have h3 : (b + 7) / 8 ≤ own b := by unfold own; split <;> omega
  rcases hs with ⟨c, rfl⟩ | ⟨c, rfl⟩
  · rcases hb with hb | hb <;> omega
  · rcases ha with ha | ha <;> omega
theorem join_slim : ∀ h : Nat, SlimJ (join S h)
  | 0 => by
    rename_i st y x
    intro hy hx hs
    have h1 := opn_slim S (h := 0) (st := st) hy
    unfold join
    rcases e1 : opn S 0 st y with ⟨st1, e' | a⟩
    · trivial
    · rw [e1] at h1
      obtain ⟨a1, a2, a3, a4, a5⟩ := h1
      have h2 := opn_slim S (h := 0) (st := st1) hx
      dsimp only
      rcases e2 : opn S 0 st1 x with ⟨st2, e' | b⟩
      · trivial
      · rw [e2] at h2
        obtain ⟨b1, b2, b3, b4, b5⟩ := h2
        have hln : (a ++ b).length = a.length + b.length := List.length_append
        refine ⟨fun q _ => trivial, ?_, ?_⟩
        · show ((a ++ b).length + 7) / 8 ≤ _
          rw [hln]; omega
        · rw [pot_frs, pots_app]
          have := own_join (n := (a ++ b).length) (Nat.le_of_eq hln) a4 b4 (hs.imp (fun c => a5 c) (fun c => b5 c))
          omega
  | h + 1 => by
    rename_i st y x
    intro hy hx hs
    have h1 := opn_slim S (h := h + 1) (st := st) hy
    unfold join
    rcases e1 : opn S (h + 1) st y with ⟨st1, e' | a⟩
    · trivial
    · rw [e1] at h1
      obtain ⟨a1, a2, a3, a4, a5⟩ := h1
      have h2 := opn_slim S (h := h + 1) (st := st1) hx
      dsimp only
      rcases e2 : opn S (h + 1) st1 x with ⟨st2, e' | b⟩
      · trivial
      · rw [e2] at h2
        obtain ⟨b1, b2, b3, b4, b5⟩ := h2
        have hab : ∀ q ∈ a ++ b, Thin (h + 1) q := fun q hq => (List.mem_append.1 hq).elim (a1 q) (b1 q)
        have hf := fitJ_slim (jn := join S h) (join_slim h) (st := st2) (l := a ++ b) fun q hq => (hab q hq).semi
        dsimp only
        rcases e3 : fitJ (join S h) st2 (a ++ b) with ⟨st3, e' | l⟩
        · trivial
        · rw [e3] at hf
          obtain ⟨f1, f2, f3⟩ := hf
          have hp := thins_pns hab
          have hln : (a ++ b).length = a.length + b.length := List.length_append
          have hll : l.length ≤ a.length + b.length := by omega
          refine ⟨f1, ?_, ?_⟩
          · show (l.length + 7) / 8 ≤ _
            omega
          · rw [pot_frs]
            rw [pots_app] at f3
            have := own_join (n := l.length) hll a4 b4 (hs.imp (fun c => a5 c) (fun c => b5 c))
            omega
theorem fit_slim {h : Nat} {st : σ} {l : List (Pt (h + 1))} (hl : ∀ q ∈ l, Semi q) : Ends (fit S h st l) (fun _ r => (∀ q ∈ r, Thin (h + 1) q) ∧ r.length ≤ pns l ∧ pots r ≤ pots l) (fun _ _ => True) := fitJ_slim (jn := join S h) (join_slim S h) hl
/-- How many of the edits put. -/
def np (l : List Ed) : Nat := (l.filter fun x => !x.cut).length
theorem np_le (l : List Ed) : np l ≤ l.length := List.length_filter_le _ _
theorem np_split (l : List Ed) (k : Nat) : np (l.take k) + np (l.drop k) = np l := by
  unfold np
  rw [← List.length_append, ← List.filter_append, List.take_append_drop]
theorem merged_np : ∀ (eds : List Ed) (l : List E), (merged eds l).length ≤ l.length + np eds
  | [], l => Nat.le_add_right _ _
  | x :: xs, l => by
    have ih := merged_np xs (rest l x.x.k)
    rw [merged_cons]
    have e : l.length = (l.takeWhile fun y => decide (y.k < x.x.k)).length + (l.dropWhile fun y => decide (y.k < x.x.k)).length := by rw [← List.length_append, List.takeWhile_append_dropWhile]
    have hr : (rest l x.x.k).length ≤ (l.dropWhile fun y => decide (y.k < x.x.k)).length := (dropEq_sub _ _).length_le
    rw [List.length_append, List.length_append]
    unfold np
    rw [List.filter_cons]
    unfold np at ih
    cases hc : x.cut with
    | true =>
      rw [if_pos rfl, if_neg (by simp), List.length_nil]
      omega
    | false =>
      rw [if_neg (by simp), if_pos (by simp), List.length_cons, List.length_cons, List.length_nil]
      omega
/-- What edited answers: a node's parts, and one more for each that is put; two nodes for each edit and level. -/
def SlimE {h : Nat} (ed : σ → Br → List Ed → Res σ (List (Pt h) × Bool)) : Prop := ∀ {st : σ} {b : Br} {eds : List Ed}, Ends (ed st b eds) (fun _ r => (∀ q ∈ r.1, Thin h q) ∧ r.1.length ≤ 8 + np eds ∧ pots r.1 ≤ 2 * eds.length * h) (fun _ _ => True)
theorem edKids_slim {h : Nat} {ed : σ → Br → List Ed → Res σ (List (Pt h) × Bool)} (he : SlimE ed) : ∀ {bs : List Br} {st : σ} {eds : List Ed}, Ends (edKids ed bs st eds) (fun _ r => (∀ q ∈ r.1, Semi q) ∧ pns r.1 ≤ bs.length + np eds ∧ pots r.1 ≤ 2 * eds.length * (h + 1)) (fun _ _ => True)
  | [], st, eds => ⟨(fun q hq => by cases hq), Nat.zero_le _, Nat.zero_le _⟩
  | b :: bs, st, eds => by
    unfold edKids
    by_cases h0 : cnt eds b.t = 0
    · rw [if_pos h0]
      have ih := edKids_slim (ed := ed) he (bs := bs) (st := st) (eds := eds)
      rcases h1 : edKids ed bs st eds with ⟨s1, er | ⟨m, d⟩⟩
      · trivial
      · rw [h1] at ih
        obtain ⟨i1, i2, i3⟩ := ih
        refine ⟨fun q hq => ?_, ?_, ?_⟩
        · rcases List.mem_cons.1 hq with rfl | hq
          · trivial
          · exact i1 q hq
        · show pns (old b :: m) ≤ _
          rw [pns_cons, List.length_cons]
          show 1 + pns m ≤ _
          dsimp only at i2
          omega
        · show pots (old b :: m) ≤ _
          rw [pots_cons, pot_old]
          dsimp only at i3
          omega
    · rw [if_neg h0]
      have h2 := he (st := st) (b := b) (eds := eds.take (cnt eds b.t))
      rcases h3 : ed st b (eds.take (cnt eds b.t)) with ⟨s2, er | ⟨below, is⟩⟩
      · trivial
      · rw [h3] at h2
        obtain ⟨w1, w2, w3⟩ := h2
        dsimp only
        have ih := edKids_slim (ed := ed) he (bs := bs) (st := s2) (eds := eds.drop (cnt eds b.t))
        rcases h1 : edKids ed bs s2 (eds.drop (cnt eds b.t)) with ⟨s1, er | ⟨m, d⟩⟩
        · trivial
        · rw [h1] at ih
          obtain ⟨i1, i2, i3⟩ := ih
          dsimp only at i1 i2 i3 w1 w2 w3
          have hk : cnt eds b.t ≤ eds.length := by unfold cnt; exact (List.takeWhile_sublist _).length_le
          have hs := np_split eds (cnt eds b.t)
          have hq := np_le (eds.take (cnt eds b.t))
          rw [List.length_take, Nat.min_eq_left hk] at w3 hq
          rw [List.length_drop] at i3
          obtain ⟨k, hkk⟩ : ∃ k, cnt eds b.t = k := ⟨_, rfl⟩
          rw [hkk] at hk hs hq w2 w3 i2 i3 h0
          obtain ⟨P, hP⟩ : ∃ P, 2 * k * h = P := ⟨_, rfl⟩
          obtain ⟨Q, hQ⟩ : ∃ Q, 2 * (eds.length - k) * (h + 1) = Q := ⟨_, rfl⟩
          have hT : 2 * eds.length * (h + 1) = P + 2 * k + Q := by
            rw [← hP, ← hQ]
            have e : 2 * eds.length = 2 * k + 2 * (eds.length - k) := by omega
            rw [e, Nat.add_mul, Nat.mul_add (2 * k), Nat.mul_one]
          rw [hP] at w3
          rw [hQ] at i3
          refine ⟨fun q hq => ?_, ?_, ?_⟩
          · rcases List.mem_cons.1 hq with rfl | hq
            · cases is
              · trivial
              · exact w1
            · exact i1 q hq
          · show pns ((if is then frs below else old b) :: m) ≤ _
            rw [pns_cons, List.length_cons]
            have : pn (if is then frs below else old b) ≤ 1 + np (eds.take k) := by
              cases is
              · exact Nat.le_add_right _ _
              · show (below.length + 7) / 8 ≤ _
                omega
            omega
          · show pots ((if is then frs below else old b) :: m) ≤ _
            rw [pots_cons, hT]
            have : pot (h + 1) (if is then frs below else old b) ≤ P + 2 * k := by
              cases is
              · exact Nat.zero_le _
              · rw [if_pos rfl, pot_frs]
                have := own_le below.length
                omega
            omega
theorem edited_slim : ∀ h, SlimE (edited S h)
  | 0 => by
    rename_i st b eds
    unfold edited
    rcases h1 : load S st b with ⟨s1, er | n⟩
    · trivial
    · have h8 := (load_fits' S (b := b) (n := n) (st := st) (by rw [h1])).1.few
      have hl : (leaf n).length = n.ks.length := (List.length_map ..).trans (List.length_range ..)
      have hm := merged_np eds (leaf n)
      refine ⟨fun q _ => trivial, ?_, by rw [pots_zero]; exact Nat.zero_le _⟩
      show (merged eds (leaf n)).length ≤ _
      omega
  | h + 1 => by
    rename_i st b eds
    unfold edited
    rcases h1 : load S st b with ⟨s1, er | n⟩
    · trivial
    · have h8 := (load_fits' S (b := b) (n := n) (st := st) (by rw [h1])).1.few
      have hk := edKids_slim (ed := edited S h) (edited_slim h) (bs := kidsB b n) (st := s1) (eds := eds)
      dsimp only
      rcases h2 : edKids (edited S h) (kidsB b n) s1 eds with ⟨s2, er | ⟨m, d⟩⟩
      · trivial
      · rw [h2] at hk
        obtain ⟨k1, k2, k3⟩ := hk
        rw [kids_len] at k2
        dsimp only at k1 k2 k3 ⊢
        cases d
        · rw [if_neg (by decide)]
          exact ⟨(fun q hq => by cases hq), Nat.zero_le _, Nat.zero_le _⟩
        · rw [if_pos rfl]
          have hf := fit_slim S (st := s2) k1
          rcases h3 : fit S h s2 m with ⟨s3, er | r⟩
          · trivial
          · rw [h3] at hf
            obtain ⟨f1, f2, f3⟩ := hf
            exact ⟨f1, by dsimp only; omega, by dsimp only; omega⟩
end
end Tr
end Go.Proofs.Ytlcchefiicalpaa
namespace Go.Proofs.Ytlcchefiicalpaa
open Go.RowKit
namespace Tr
/-- One behind the other between bounds. -/
def Ch {α : Type} (P : α → Int → Int → Prop) : List α → Int → Int → Prop
  | [], lo, hi => lo ≤ hi
  | x :: l, lo, hi => ∃ m, P x lo m ∧ Ch P l m hi
structure Mo {α : Type} (P : α → Int → Int → Prop) : Prop where
  le : ∀ {x lo hi}, P x lo hi → lo ≤ hi
  lo : ∀ {x lo lo' hi}, lo' ≤ lo → P x lo hi → P x lo' hi
  hi : ∀ {x lo hi hi'}, hi ≤ hi' → P x lo hi → P x lo hi'
section
variable {α : Type} {P : α → Int → Int → Prop}
theorem Ch.le (hP : Mo P) : ∀ {l : List α} {lo hi : Int}, Ch P l lo hi → lo ≤ hi
  | [], _, _, h => h
  | _ :: _, _, _, ⟨_, h1, h2⟩ => Int.le_trans (hP.le h1) (Ch.le hP h2)
theorem Ch.lo (hP : Mo P) : ∀ {l : List α} {lo lo' hi : Int}, lo' ≤ lo → Ch P l lo hi → Ch P l lo' hi
  | [], _, _, _, hl, h => Int.le_trans hl h
  | _ :: _, _, _, _, hl, ⟨m, h1, h2⟩ => ⟨m, hP.lo hl h1, h2⟩
theorem Ch.hi (hP : Mo P) : ∀ {l : List α} {lo hi hi' : Int}, hi ≤ hi' → Ch P l lo hi → Ch P l lo hi'
  | [], _, _, _, hl, h => Int.le_trans h hl
  | _ :: _, _, _, _, hl, ⟨m, h1, h2⟩ => ⟨m, h1, Ch.hi hP hl h2⟩
theorem Ch.app (hP : Mo P) : ∀ {a b : List α} {lo m hi : Int}, Ch P a lo m → Ch P b m hi → Ch P (a ++ b) lo hi
  | [], _, _, _, _, h1, h2 => Ch.lo hP h1 h2
  | _ :: _, _, _, _, _, ⟨m, h1, h2⟩, h3 => ⟨m, h1, Ch.app hP h2 h3⟩
theorem Ch.parts : ∀ {a b : List α} {lo hi : Int}, Ch P (a ++ b) lo hi → ∃ m, Ch P a lo m ∧ Ch P b m hi
  | [], _, lo, _, h => ⟨lo, Int.le_refl _, h⟩
  | _ :: _, _, _, _, ⟨m, h1, h2⟩ => by
    obtain ⟨q, h3, h4⟩ := Ch.parts h2
    exact ⟨q, ⟨m, h1, h3⟩, h4⟩
theorem Ch.one {x : α} {lo hi : Int} (h : P x lo hi) : Ch P [x] lo hi := ⟨hi, h, Int.le_refl _⟩
/-- Parts that each lie between bounds of their own. -/
theorem Ch.of (f t : α → Int) : ∀ {l : List α} {lo hi : Int}, (∀ x ∈ l, ∀ q, q ≤ f x → P x q (t x)) → l.Pairwise (fun x y => t x ≤ f y) → (∀ x ∈ l, lo ≤ f x ∧ t x ≤ hi) → (l = [] → lo ≤ hi) → Ch P l lo hi
  | [], lo, hi, _, _, _, h => h rfl
  | x :: l, lo, hi, hx, hp, hb, _ => by
    obtain ⟨p1, p2⟩ := List.pairwise_cons.1 hp
    have hb0 := hb x (List.mem_cons_self ..)
    refine ⟨t x, hx x (List.mem_cons_self ..) lo hb0.1, Ch.of f t (fun y hy => hx y (List.mem_cons_of_mem _ hy)) p2 (fun y hy => ⟨p1 y hy, (hb y (List.mem_cons_of_mem _ hy)).2⟩) fun _ => hb0.2⟩
end
/-- A part lies between bounds. -/
def Sg (M : List Nd.N) : (h : Nat) → Pt h → Int → Int → Prop
  | 0, e, lo, hi => EOk e ∧ lo ≤ E.k e ∧ E.k e < hi
  | h + 1, .inl b, lo, hi => (Nd.KidOk b.k ∧ b.h = (h : Int)) ∧ (lo ≤ b.f ∧ b.f < b.t ∧ b.t ≤ hi) ∧ Good M h b.k.1 b.f b.t
  | h + 1, .inr l, lo, hi => Ch (Sg M h) l lo hi
theorem sg_mo (M : List Nd.N) : ∀ h, Mo (Sg M h)
  | 0 => ⟨fun {_ _ _} ⟨_, h1, h2⟩ => by omega, fun {_ _ _ _} hl ⟨h0, h1, h2⟩ => ⟨h0, by omega, h2⟩, fun {_ _ _ _} hl ⟨h0, h1, h2⟩ => ⟨h0, h1, by omega⟩⟩
  | h + 1 => ⟨fun {x lo hi} hx => by
      cases x with
      | inl b => obtain ⟨-, h1, -⟩ := hx; omega
      | inr l => exact Ch.le (sg_mo M h) hx, fun {x lo lo' hi} hl hx => by
      cases x with
      | inl b => obtain ⟨h0, h1, h2⟩ := hx; exact ⟨h0, by omega, h2⟩
      | inr l => exact Ch.lo (sg_mo M h) hl hx, fun {x lo hi hi'} hl hx => by
      cases x with
      | inl b => obtain ⟨h0, h1, h2⟩ := hx; exact ⟨h0, by omega, h2⟩
      | inr l => exact Ch.hi (sg_mo M h) hl hx⟩
/-- A tree no node of which has less than four parts; one whose root alone may have. -/
def FullT (M : List Nd.N) : Nat → Int → Prop
  | 0, a => 4 ≤ (nd M a).ks.length
  | h + 1, a => 4 ≤ (nd M a).ks.length ∧ ∀ i, i < (nd M a).ks.length → FullT M h (Nd.t3 (nd M a).cs i).1
def KidsF (M : List Nd.N) : Nat → Int → Prop
  | 0, _ => True
  | h + 1, a => ∀ i, i < (nd M a).ks.length → FullT M h (Nd.t3 (nd M a).cs i).1
theorem FullT.kids {M : List Nd.N} {h : Nat} {a : Int} (hf : FullT M h a) : KidsF M h a := by
  cases h with
  | zero => trivial
  | succ h => exact hf.2
theorem FullT.four {M : List Nd.N} {h : Nat} {a : Int} (hf : FullT M h a) : 4 ≤ (nd M a).ks.length := by
  cases h with
  | zero => exact hf
  | succ h => exact hf.1
def Fl (M : List Nd.N) : (h : Nat) → Pt h → Prop
  | 0, _ => True
  | h + 1, .inl b => FullT M h b.k.1
  | h + 1, .inr l => 4 ≤ l.length ∧ ∀ q ∈ l, Fl M h q
def Qp (M : List Nd.N) : (h : Nat) → Pt h → Prop
  | 0, _ => True
  | h + 1, .inl b => FullT M h b.k.1
  | h + 1, .inr l => (∀ q ∈ l, Fl M h q) ∨ ∃ q, l = [q] ∧ Qp M h q
def Ql (M : List Nd.N) {h : Nat} (l : List (Pt h)) : Prop := (∀ q ∈ l, Fl M h q) ∨ ∃ q, l = [q] ∧ Qp M h q
section
variable {M : List Nd.N}
theorem Fl.qp {h : Nat} {p : Pt h} (hp : Fl M h p) : Qp M h p := by
  cases h with
  | zero => trivial
  | succ h => cases p with
    | inl b => exact hp
    | inr l => exact .inl hp.2
theorem Ql.mem {h : Nat} {l : List (Pt h)} (hl : Ql M l) : ∀ q ∈ l, Qp M h q := fun q hq => by
  rcases hl with hl | ⟨p, rfl, hp⟩
  · exact (hl q hq).qp
  · rw [List.mem_singleton] at hq; subst hq; exact hp
theorem Qp.fl {h : Nat} {p : Pt (h + 1)} (hp : Qp M (h + 1) p) (hs : small p = false) : Fl M (h + 1) p := by
  cases p with
  | inl b => exact hp
  | inr l =>
    have h4 : 4 ≤ l.length := by
      have : ¬ l.length < 4 := by simpa [small] using hs
      omega
    rcases hp with hp | ⟨q, rfl, -⟩
    · exact ⟨h4, hp⟩
    · simp at h4
theorem pieces_fl {h : Nat} {l : List (Pt h)} (hl : ∀ q ∈ l, Fl M h q) (h9 : 4 ≤ l.length) : ∀ p ∈ pieces l, Fl M (h + 1) p := fun p hp => by
  by_cases h8 : l.length ≤ 8
  · rw [pieces_one (fun e => by rw [e] at h9; simp at h9) h8, List.mem_singleton] at hp
    subst hp
    exact ⟨h9, hl⟩
  · obtain ⟨m, rfl, h1, -, h3⟩ := piece_len hp
    exact ⟨h3 (by omega), fun q hq => hl q (h1 q hq)⟩
theorem split_mem {h : Nat} {p : Pt (h + 1)} : ∀ {l : List (Pt (h + 1))}, p ∈ split l → (∃ b, p = old b ∧ old b ∈ l) ∨ ∃ m, frs m ∈ l ∧ p ∈ pieces m
  | [], hp => by cases hp
  | x :: l, hp => by
    rcases (show (∃ b, x = old b) ∨ ∃ m, x = frs m by cases x with | inl b => exact .inl ⟨b, rfl⟩ | inr m => exact .inr ⟨m, rfl⟩) with ⟨b, rfl⟩ | ⟨m, rfl⟩
    · have e : split (old b :: l) = old b :: split l := rfl
      rw [e] at hp
      rcases List.mem_cons.1 hp with rfl | hp
      · exact .inl ⟨b, rfl, List.mem_cons_self ..⟩
      · rcases split_mem hp with ⟨c, h1, h2⟩ | ⟨c, h1, h2⟩
        · exact .inl ⟨c, h1, List.mem_cons_of_mem _ h2⟩
        · exact .inr ⟨c, List.mem_cons_of_mem _ h1, h2⟩
    · have e : split (frs m :: l) = pieces m ++ split l := rfl
      rw [e] at hp
      rcases List.mem_append.1 hp with hp | hp
      · exact .inr ⟨m, List.mem_cons_self .., hp⟩
      · rcases split_mem hp with ⟨c, h1, h2⟩ | ⟨c, h1, h2⟩
        · exact .inl ⟨c, h1, List.mem_cons_of_mem _ h2⟩
        · exact .inr ⟨c, List.mem_cons_of_mem _ h1, h2⟩
theorem pieces_ql {h : Nat} {l : List (Pt h)} (hl : Ql M l) : Ql M (pieces l) := by
  by_cases h0 : l = []
  · subst h0; rw [pieces_nil]; exact .inl (fun q hq => by cases hq)
  · by_cases h8 : l.length ≤ 8
    · rw [pieces_one h0 h8]
      exact .inr ⟨_, rfl, hl⟩
    · rcases hl with hl | ⟨q, rfl, -⟩
      · exact .inl (pieces_fl hl (by omega))
      · simp at h8
theorem split_ql {h : Nat} {s : List (Pt (h + 1))} (hs : ∀ q ∈ s, Qp M (h + 1) q) (h1 : s.length ≤ 1 ∨ ∀ x ∈ s, small x = false) : Ql M (split s) := by
  rcases h1 with h1 | h1
  · match s, h1, hs with
    | [], _, _ => exact .inl (fun q hq => by cases hq)
    | [.inl b], _, hs => exact .inr ⟨_, rfl, hs _ (List.mem_singleton.2 rfl)⟩
    | [.inr m], _, hs =>
      have e : split [frs m] = pieces m := by show pieces m ++ [] = pieces m; rw [List.append_nil]
      show Ql M (split [frs m])
      rw [e]
      exact pieces_ql (show Ql M m from hs _ (List.mem_singleton.2 rfl))
  · refine .inl fun q hq => ?_
    rcases split_mem hq with ⟨b, rfl, hb⟩ | ⟨m, hm, hq⟩
    · exact (hs _ hb).fl (h1 _ hb)
    · have := (hs _ hm).fl (h1 _ hm)
      exact pieces_fl this.2 this.1 q hq
theorem cut_ch {h : Nat} (l : List (Pt h)) (c : Nat) {lo : Int} : ∀ (k : Nat) {m : Int}, Ch (Sg M h) (l.take (Go.Proofs.Ytlcchefiicalpaa.lo l.length c k)) lo m → Ch (Sg M (h + 1)) ((List.range k).map fun i => frs (cut1 l c i)) lo m
  | 0, m, hc => by
    rw [lo_zero, List.take_zero] at hc
    exact hc
  | k + 1, m, hc => by
    have e : Go.Proofs.Ytlcchefiicalpaa.lo l.length c (k + 1) = Go.Proofs.Ytlcchefiicalpaa.lo l.length c k + (Go.Proofs.Ytlcchefiicalpaa.lo l.length c (k + 1) - Go.Proofs.Ytlcchefiicalpaa.lo l.length c k) := by have := lo_mono (n := l.length) (c := c) (i := k); omega
    rw [e, List.take_add] at hc
    obtain ⟨q, h1, h2⟩ := hc.parts
    rw [List.range_succ, List.map_append]
    refine Ch.app (sg_mo M (h + 1)) (cut_ch l c k h1) (Ch.one ?_)
    exact h2
theorem pieces_ch {h : Nat} {l : List (Pt h)} {lo hi : Int} (hl : Ch (Sg M h) l lo hi) : Ch (Sg M (h + 1)) (pieces l) lo hi := by
  by_cases h0 : l = []
  · subst h0; rw [pieces_nil]; exact hl
  · have hp : 0 < l.length := List.length_pos_iff.2 h0
    have hc : 0 < (l.length + 7) / 8 := by omega
    rw [pieces_is]
    refine cut_ch l _ _ ?_
    rw [lo_all hc, List.take_length]
    exact hl
theorem split_ch {h : Nat} : ∀ {l : List (Pt (h + 1))} {lo hi : Int}, Ch (Sg M (h + 1)) l lo hi → Ch (Sg M (h + 1)) (split l) lo hi
  | [], _, _, hl => hl
  | x :: l, lo, hi, ⟨m, h1, h2⟩ => by
    rcases (show (∃ b, x = old b) ∨ ∃ m, x = frs m by cases x with | inl b => exact .inl ⟨b, rfl⟩ | inr m => exact .inr ⟨m, rfl⟩) with ⟨b, rfl⟩ | ⟨p, rfl⟩
    · have e : split (old b :: l) = old b :: split l := rfl
      rw [e]
      exact ⟨m, h1, split_ch h2⟩
    · have e : split (frs p :: l) = pieces p ++ split l := rfl
      rw [e]
      exact Ch.app (sg_mo M (h + 1)) (pieces_ch h1) (split_ch h2)
/-- The parts of a node. -/
theorem parts_good {h : Nat} {b : Br} {lo hi : Int} (hg : Good M h b.k.1 b.f b.t) (hk : KidsF M h b.k.1) (hh : b.h = (h : Int)) (hlo : lo ≤ b.f) (hhi : b.t ≤ hi) (hft : b.f ≤ b.t) : Ch (Sg M h) (parts h b (nd M b.k.1)) lo hi ∧ ∀ q ∈ parts h b (nd M b.k.1), Fl M h q := by
  have ok := hg.ok
  cases h with
  | zero =>
    refine ⟨?_, fun q _ => trivial⟩
    show Ch (Sg M 0) (leaf (nd M b.k.1)) lo hi
    refine Ch.of (α := E) (P := Sg M 0) (fun e => E.k e) (fun e => E.k e + 1) (fun x hx q hq => ?_) ?_ (fun x hx => ?_) fun _ => by omega
    · obtain ⟨i, hi, rfl⟩ := leaf_mem hx
      refine ⟨⟨ok.key i hi, (ok.leaf hg.height).2.2.2 i hi⟩, hq, ?_⟩
      show E.k (leafE _ _) < E.k (leafE _ _) + 1
      omega
    · refine List.Pairwise.imp (fun {x y} hxy => ?_) (leaf_asc ok)
      have : E.k x < E.k y := hxy
      show E.k x + 1 ≤ E.k y
      omega
    · obtain ⟨i, hi, rfl⟩ := leaf_mem hx
      have := hg.key hi
      show lo ≤ Nd.at_ _ _ ∧ Nd.at_ _ _ + 1 ≤ _
      omega
  | succ h =>
    have hin := ok.inner (by rw [hg.height]; omega)
    refine ⟨?_, fun q hq => ?_⟩
    · show Ch (Sg M (h + 1)) ((kidsB b (nd M b.k.1)).map (old (h := h))) lo hi
      have hF : ∀ x ∈ (kidsB b (nd M b.k.1)).map (old (h := h)), ∃ i, i < (nd M b.k.1).ks.length ∧ x = old (kidB b (nd M b.k.1) i) := fun x hx => by
        obtain ⟨c, hc, rfl⟩ := List.mem_map.1 hx
        obtain ⟨i, hi, rfl⟩ := List.mem_map.1 hc
        exact ⟨i, List.mem_range.1 hi, rfl⟩
      have hne : ∀ i, i < (nd M b.k.1).ks.length → Nd.at_ (nd M b.k.1).ks i < next (nd M b.k.1) b.t i := fun i hi => by
        unfold next
        split
        · exact ok.asc i (by assumption)
        · exact (hg.key hi).2
      refine Ch.of (P := Sg M (h + 1)) (fun x => match x with | .inl c => c.f | .inr _ => 0) (fun x => match x with | .inl c => c.t | .inr _ => 0) (fun x hx q hq => ?_) ?_ (fun x hx => ?_) fun e => ?_
      · obtain ⟨i, hi, rfl⟩ := hF x hx
        refine ⟨⟨hin.2.2.2.2 i hi, ?_⟩, ⟨hq, hne i hi, Int.le_refl _⟩, hg.kid hi⟩
        show b.h - 1 = (h : Int)
        omega
      · rw [List.pairwise_map]
        unfold kidsB
        rw [List.pairwise_map]
        refine List.Pairwise.imp_of_mem (fun {i j} _ hj hij => ?_) (range_lt _)
        exact next_le ok (t := b.t) (fun i hi => (hg.key hi).2) hij (List.mem_range.1 hj)
      · obtain ⟨i, hil, rfl⟩ := hF x hx
        have h1 := hg.key hil
        have h2 := next_top (n := nd M b.k.1) (t := b.t) (fun i hil => (hg.key hil).2) i
        show lo ≤ Nd.at_ _ _ ∧ next _ _ _ ≤ hi
        omega
      · omega
    · obtain ⟨c, hc, rfl⟩ := List.mem_map.1 hq
      obtain ⟨i, hi, rfl⟩ := List.mem_map.1 hc
      exact hk i (List.mem_range.1 hi)
/-- The memory as it was, but for the count of loads; a load's error. -/
structure KS (s st : MSt) : Prop where
  L : st.L = s.L
  sv : st.sv = s.sv
  bl : st.bl = s.bl
  bs : st.bs = s.bs
theorem KS.refl (s : MSt) : KS s s := ⟨rfl, rfl, rfl, rfl⟩
def E6 (s st : MSt) (e : Int) : Prop := KS s st ∧ e = 6 ∧ 0 < s.bl
theorem load_good {s st : MSt} {h : Nat} {b : Br} (hs : KS s st) (hg : Good s.L h b.k.1 b.f b.t) (hh : b.h = (h : Int)) : Ends (load mem st b) (fun st' n => KS s st' ∧ n = nd s.L b.k.1) (E6 s) := by
  have hin := hg.in_
  have hf := good_fits hg hh
  unfold load mem
  dsimp only
  by_cases hc : (0 < st.bl ∧ st.bl ≤ wrap64 (st.ld + 1)) ∨ b.k.1 < 2 ∨ (st.L.length : Int) ≤ b.k.1 - 2
  · rw [if_pos hc]
    refine ⟨⟨hs.L, hs.sv, hs.bl, hs.bs⟩, rfl, ?_⟩
    obtain ⟨h1, h2⟩ := hin
    rw [hs.L, hs.bl] at hc
    omega
  · rw [if_neg hc]
    dsimp only
    rw [show nd st.L b.k.1 = nd s.L b.k.1 by rw [hs.L], if_pos hf]
    exact ⟨⟨hs.L, hs.sv, hs.bl, hs.bs⟩, rfl⟩
variable {s : MSt}
theorem opn_good {st : MSt} {h : Nat} {p : Pt (h + 1)} {lo hi : Int} (hs : KS s st) (hp : Sg s.L (h + 1) p lo hi) (hq : Qp s.L (h + 1) p) : Ends (opn mem h st p) (fun st' a => KS s st' ∧ Ch (Sg s.L h) a lo hi ∧ Ql s.L a) (E6 s) := by
  cases p with
  | inl b =>
    obtain ⟨⟨h1, h2⟩, ⟨h3, h4, h5⟩, h6⟩ := hp
    have hl := load_good hs h6 h2
    unfold opn partsOf
    dsimp only
    rcases e : load mem st b with ⟨st', e' | n⟩
    · rw [e] at hl; exact hl
    · rw [e] at hl
      obtain ⟨a1, rfl⟩ := hl
      obtain ⟨b1, b2⟩ := parts_good h6 (FullT.kids hq) h2 h3 h5 (by omega)
      exact ⟨a1, b1, .inl b2⟩
  | inr l => exact ⟨hs, hp, hq⟩
def GJ (s : MSt) {h : Nat} (jn : MSt → Pt (h + 1) → Pt (h + 1) → Res MSt (Pt (h + 1))) : Prop := ∀ {st : MSt} {y x : Pt (h + 1)} {lo m hi : Int}, KS s st → Sg s.L (h + 1) y lo m → Sg s.L (h + 1) x m hi → Qp s.L (h + 1) y → Qp s.L (h + 1) x → Ends (jn st y x) (fun st' z => KS s st' ∧ Sg s.L (h + 1) z lo hi ∧ Qp s.L (h + 1) z) (E6 s)
theorem fitJ_good {h : Nat} {jn : MSt → Pt (h + 1) → Pt (h + 1) → Res MSt (Pt (h + 1))} (hj : GJ s jn) {st : MSt} {l : List (Pt (h + 1))} {lo hi : Int} (hs : KS s st) (hl : Ch (Sg s.L (h + 1)) l lo hi) (hq : ∀ q ∈ l, Qp s.L (h + 1) q) : Ends (fitJ jn st l) (fun st' r => KS s st' ∧ Ch (Sg s.L (h + 1)) r lo hi ∧ Ql s.L r) (E6 s) := by
  refine (fitJ_rule (jn := jn) (R := fun st m => KS s st ∧ Ch (Sg s.L (h + 1)) m lo hi ∧ ∀ q ∈ m, Qp s.L (h + 1) q) (E := E6 s) ?_ ?_ (l := l) (st := st) ⟨hs, hl, hq⟩).mono ?_ fun _ _ h => h
  · rintro st a b x hx ⟨h1, h2, h3⟩
    refine ⟨h1, ?_, fun q hq => h3 q ?_⟩
    · obtain ⟨m, c1, m2, c2, c3⟩ := h2.parts
      exact Ch.app (sg_mo _ _) c1 (Ch.lo (sg_mo _ _) ((sg_mo _ _).le c2) c3)
    · rcases List.mem_append.1 hq with hq | hq
      · exact List.mem_append_left _ hq
      · exact List.mem_append_right _ (List.mem_cons_of_mem _ hq)
  · rintro st a b y x - ⟨h1, h2, h3⟩
    obtain ⟨m, c1, m2, c2, m3, c3, c4⟩ := h2.parts
    refine (hj h1 c2 c3 (h3 y (by simp)) (h3 x (by simp))).mono (fun st' z hz => ?_) fun _ _ h => h
    obtain ⟨z1, z2, z3⟩ := hz
    refine ⟨z1, Ch.app (sg_mo _ _) c1 ⟨m3, z2, c4⟩, fun q hq => ?_⟩
    rcases List.mem_append.1 hq with hq | hq
    · exact h3 q (List.mem_append_left _ hq)
    · rcases List.mem_cons.1 hq with rfl | hq
      · exact z3
      · exact h3 q (by simp [hq])
  · rintro st' r ⟨t, rfl, ⟨h1, h2, h3⟩, h4⟩
    exact ⟨h1, split_ch h2, split_ql h3 h4⟩
theorem join_good : ∀ h : Nat, GJ s (join mem h)
  | 0 => by
    rename_i st lo m hi y x
    intro hs hy hx qy qx
    have h1 := opn_good hs hy qy
    unfold join
    rcases e1 : opn mem 0 st y with ⟨st1, e' | a⟩
    · rw [e1] at h1; exact h1
    · rw [e1] at h1
      obtain ⟨a1, a2, a3⟩ := h1
      have h2 := opn_good a1 hx qx
      dsimp only
      rcases e2 : opn mem 0 st1 x with ⟨st2, e' | b⟩
      · rw [e2] at h2; exact h2
      · rw [e2] at h2
        obtain ⟨b1, b2, b3⟩ := h2
        exact ⟨b1, Ch.app (sg_mo _ _) a2 b2, .inl fun q _ => trivial⟩
  | h + 1 => by
    rename_i st lo m hi y x
    intro hs hy hx qy qx
    have h1 := opn_good hs hy qy
    unfold join
    rcases e1 : opn mem (h + 1) st y with ⟨st1, e' | a⟩
    · rw [e1] at h1; exact h1
    · rw [e1] at h1
      obtain ⟨a1, a2, a3⟩ := h1
      have h2 := opn_good a1 hx qx
      dsimp only
      rcases e2 : opn mem (h + 1) st1 x with ⟨st2, e' | b⟩
      · rw [e2] at h2; exact h2
      · rw [e2] at h2
        obtain ⟨b1, b2, b3⟩ := h2
        have h3 := fitJ_good (jn := join mem h) (join_good h) (l := a ++ b) b1 (Ch.app (sg_mo _ _) a2 b2) fun q hq => (List.mem_append.1 hq).elim (a3.mem q) (b3.mem q)
        dsimp only
        rcases e3 : fitJ (join mem h) st2 (a ++ b) with ⟨st3, e' | l⟩
        · rw [e3] at h3; exact h3
        · rw [e3] at h3
          obtain ⟨c1, c2, c3⟩ := h3
          exact ⟨c1, c2, c3⟩
theorem fit_good {h : Nat} {st : MSt} {l : List (Pt (h + 1))} {lo hi : Int} (hs : KS s st) (hl : Ch (Sg s.L (h + 1)) l lo hi) (hq : ∀ q ∈ l, Qp s.L (h + 1) q) : Ends (fit mem h st l) (fun st' r => KS s st' ∧ Ch (Sg s.L (h + 1)) r lo hi ∧ Ql s.L r) (E6 s) := fitJ_good (jn := join mem h) (join_good h) hs hl hq
/-- Edits that may be done. -/
def EdsOk (eds : List Ed) (lo : Int) : Prop := AscP eds ∧ ∀ x ∈ eds, lo ≤ x.x.k ∧ (x.cut = false → EOk x.x)
def GE (s : MSt) {h : Nat} (ed : MSt → Br → List Ed → Res MSt (List (Pt h) × Bool)) : Prop := ∀ {st : MSt} {b : Br} {eds : List Ed} {lo : Int}, KS s st → Good s.L h b.k.1 b.f b.t → b.h = (h : Int) → KidsF s.L h b.k.1 → lo ≤ b.f → b.f < b.t → EdsOk eds lo → (∀ x ∈ eds, x.x.k < b.t) → Ends (ed st b eds) (fun st' r => KS s st' ∧ (r.2 = true → Ch (Sg s.L h) r.1 lo b.t ∧ Ql s.L r.1)) (E6 s)
theorem edKids_good {h : Nat} {ed : MSt → Br → List Ed → Res MSt (List (Pt h) × Bool)} (he : GE s ed) : ∀ {bs : List Br} {st : MSt} {eds : List Ed} {lo hi : Int}, KS s st → (∀ b ∈ bs, Good s.L h b.k.1 b.f b.t ∧ b.h = (h : Int) ∧ FullT s.L h b.k.1 ∧ Nd.KidOk b.k ∧ b.f < b.t) → bs.Pairwise (fun x y => x.t ≤ y.f) → (∀ b ∈ bs, lo ≤ b.f ∧ b.t ≤ hi) → (bs = [] → lo ≤ hi) → EdsOk eds lo →
    Ends (edKids ed bs st eds) (fun st' r => KS s st' ∧ Ch (Sg s.L (h + 1)) r.1 lo hi ∧ ∀ q ∈ r.1, Qp s.L (h + 1) q) (E6 s)
  | [], st, eds, lo, hi, hs, _, _, _, h0, _ => ⟨hs, h0 rfl, (fun q hq => by cases hq)⟩
  | b :: bs, st, eds, lo, hi, hs, hb, hp, hl, _, hx => by
    obtain ⟨b1, b2, b3, b4, b5⟩ := hb b (List.mem_cons_self ..)
    obtain ⟨l1, l2⟩ := hl b (List.mem_cons_self ..)
    obtain ⟨p1, p2⟩ := List.pairwise_cons.1 hp
    obtain ⟨c1, c2⟩ := cnt_split (t := b.t) hx.1
    have hb' : ∀ c ∈ bs, Good s.L h c.k.1 c.f c.t ∧ c.h = (h : Int) ∧ FullT s.L h c.k.1 ∧ Nd.KidOk c.k ∧ c.f < c.t := fun c hc => hb c (List.mem_cons_of_mem _ hc)
    have hl' : ∀ c ∈ bs, b.t ≤ c.f ∧ c.t ≤ hi := fun c hc => ⟨p1 c hc, (hl c (List.mem_cons_of_mem _ hc)).2⟩
    have hxd : EdsOk (eds.drop (cnt eds b.t)) b.t := ⟨ascP_drop hx.1 _, fun x h => ⟨c2 x h, (hx.2 x (List.mem_of_mem_drop h)).2⟩⟩
    have hxt : EdsOk (eds.take (cnt eds b.t)) lo := ⟨ascP_take hx.1 _, fun x h => hx.2 x (List.mem_of_mem_take h)⟩
    have hold : Sg s.L (h + 1) (old b) lo b.t := ⟨⟨b4, b2⟩, ⟨l1, b5, Int.le_refl _⟩, b1⟩
    unfold edKids
    by_cases h0 : cnt eds b.t = 0
    · rw [if_pos h0]
      rw [h0, List.drop_zero] at hxd
      have ih := edKids_good (ed := ed) he (bs := bs) (st := st) hs hb' p2 hl' (fun _ => l2) hxd
      rcases h1 : edKids ed bs st eds with ⟨s1, er | ⟨m, d⟩⟩
      · rw [h1] at ih; exact ih
      · rw [h1] at ih
        obtain ⟨i1, i2, i3⟩ := ih
        refine ⟨i1, ⟨b.t, hold, i2⟩, fun q hq => ?_⟩
        rcases List.mem_cons.1 hq with rfl | hq
        · exact b3
        · exact i3 q hq
    · rw [if_neg h0]
      have h2 := he (st := st) (b := b) hs b1 b2 b3.kids l1 b5 hxt c1
      rcases h3 : ed st b (eds.take (cnt eds b.t)) with ⟨s2, er | ⟨below, is⟩⟩
      · rw [h3] at h2; exact h2
      · rw [h3] at h2
        obtain ⟨w1, w2⟩ := h2
        dsimp only
        have ih := edKids_good (ed := ed) he (bs := bs) (st := s2) w1 hb' p2 hl' (fun _ => l2) hxd
        rcases h1 : edKids ed bs s2 (eds.drop (cnt eds b.t)) with ⟨s1, er | ⟨m, d⟩⟩
        · rw [h1] at ih; exact ih
        · rw [h1] at ih
          obtain ⟨i1, i2, i3⟩ := ih
          cases is
          · refine ⟨i1, ⟨b.t, hold, i2⟩, fun q hq => ?_⟩
            rcases List.mem_cons.1 hq with rfl | hq
            · exact b3
            · exact i3 q hq
          · obtain ⟨w3, w4⟩ := w2 rfl
            refine ⟨i1, ⟨b.t, w3, i2⟩, fun q hq => ?_⟩
            rcases List.mem_cons.1 hq with rfl | hq
            · exact w4
            · exact i3 q hq
theorem edited_good : ∀ h, GE s (edited mem h)
  | 0 => by
    rename_i st b eds lo
    intro hs hg hh hk hlo hft hx hxt
    have hl := load_good hs hg hh
    unfold edited
    rcases h1 : load mem st b with ⟨s1, er | n⟩
    · rw [h1] at hl; exact hl
    · rw [h1] at hl
      obtain ⟨a1, rfl⟩ := hl
      have ok := hg.ok
      refine ⟨a1, fun _ => ⟨?_, .inl fun q _ => trivial⟩⟩
      have hA := merged_asc (leaf_asc ok) hx.1
      refine Ch.of (α := E) (P := Sg s.L 0) (fun e => E.k e) (fun e => E.k e + 1) (fun x hxm q hq => ?_) ?_ (fun x hxm => ?_) fun _ => by omega
      · refine ⟨?_, hq, by omega⟩
        rcases merged_mem hxm with h | ⟨y, hy, hc, rfl⟩
        · obtain ⟨i, hi, rfl⟩ := leaf_mem h
          exact ⟨ok.key i hi, (ok.leaf hg.height).2.2.2 i hi⟩
        · exact (hx.2 y hy).2 hc
      · refine List.Pairwise.imp (fun {x y} hxy => ?_) hA
        have : E.k x < E.k y := hxy
        show E.k x + 1 ≤ E.k y
        omega
      · rcases merged_mem hxm with h | ⟨y, hy, hc, rfl⟩
        · obtain ⟨i, hi, rfl⟩ := leaf_mem h
          have := hg.key hi
          show lo ≤ Nd.at_ _ _ ∧ Nd.at_ _ _ + 1 ≤ _
          omega
        · have h1 := (hx.2 y hy).1
          have h2 := hxt y hy
          omega
  | h + 1 => by
    rename_i st b eds lo
    intro hs hg hh hk hlo hft hx hxt
    have hl := load_good hs hg hh
    unfold edited
    rcases h1 : load mem st b with ⟨s1, er | n⟩
    · rw [h1] at hl; exact hl
    · rw [h1] at hl
      obtain ⟨a1, rfl⟩ := hl
      have ok := hg.ok
      have hin := ok.inner (by rw [hg.height]; omega)
      have hek := edKids_good (ed := edited mem h) (edited_good h) (bs := kidsB b (nd s.L b.k.1)) (st := s1) (eds := eds) (lo := lo) (hi := b.t) a1 (fun c hc => by
        obtain ⟨i, hi, rfl⟩ := List.mem_map.1 hc
        have hi := List.mem_range.1 hi
        refine ⟨hg.kid hi, ?_, hk i hi, hin.2.2.2.2 i hi, ?_⟩
        · show b.h - 1 = (h : Int)
          omega
        · show Nd.at_ _ _ < next _ _ _
          unfold next
          split
          · exact ok.asc i (by assumption)
          · exact (hg.key hi).2) (by
        unfold kidsB
        rw [List.pairwise_map]
        refine List.Pairwise.imp_of_mem (fun {i j} _ hj hij => ?_) (range_lt _)
        exact next_le ok (t := b.t) (fun i hi => (hg.key hi).2) hij (List.mem_range.1 hj)) (fun c hc => by
        obtain ⟨i, hi, rfl⟩ := List.mem_map.1 hc
        have hi := List.mem_range.1 hi
        have h1 := hg.key hi
        have h2 := next_top (n := nd s.L b.k.1) (t := b.t) (fun i hi => (hg.key hi).2) i
        show lo ≤ Nd.at_ _ _ ∧ next _ _ _ ≤ _
        omega) (fun _ => by omega) hx
      dsimp only
      rcases h2 : edKids (edited mem h) (kidsB b (nd s.L b.k.1)) s1 eds with ⟨s2, er | ⟨m, d⟩⟩
      · rw [h2] at hek; exact hek
      · rw [h2] at hek
        obtain ⟨k1, k2, k3⟩ := hek
        dsimp only at k1 k2 k3 ⊢
        cases d
        · rw [if_neg (by decide)]
          exact ⟨k1, fun hc => by cases hc⟩
        · rw [if_pos rfl]
          have hf := fit_good k1 k2 k3
          rcases h3 : fit mem h s2 m with ⟨s3, er | r⟩
          · rw [h3] at hf; exact hf
          · rw [h3] at hf
            obtain ⟨f1, f2, f3⟩ := hf
            exact ⟨f1, fun _ => ⟨f2, f3⟩⟩
end
end Tr
end Go.Proofs.Ytlcchefiicalpaa
namespace Go.Proofs.Ytlcchefiicalpaa
open Go.RowKit
namespace Tr
theorem Ch.imp {α : Type} {P Q : α → Int → Int → Prop} : ∀ {l : List α} {lo hi : Int}, (∀ x ∈ l, ∀ a b, P x a b → Q x a b) → Ch P l lo hi → Ch Q l lo hi
  | [], _, _, _, h => h
  | x :: _, _, _, hi, ⟨m, h1, h2⟩ => ⟨m, hi x (List.mem_cons_self ..) _ _ h1, Ch.imp (fun y hy => hi y (List.mem_cons_of_mem _ hy)) h2⟩
theorem Ch.mem {α : Type} {P : α → Int → Int → Prop} : ∀ {l : List α} {lo hi : Int}, Ch P l lo hi → ∀ x ∈ l, ∃ a b, P x a b
  | [], _, _, _, x, hx => by cases hx
  | y :: l, _, _, ⟨m, h1, h2⟩, x, hx => by
    rcases List.mem_cons.1 hx with rfl | hx
    · exact ⟨_, _, h1⟩
    · exact Ch.mem h2 x hx
section
variable {M : List Nd.N}
theorem full_app (N : List Nd.N) : ∀ {h : Nat} {a f t : Int}, Good M h a f t → FullT M h a → FullT (M ++ N) h a
  | 0, a, f, t, hg, hf => by
    show 4 ≤ (nd (M ++ N) a).ks.length
    rw [nd_app hg.in_]
    exact hf
  | h + 1, a, f, t, hg, hf => by
    refine ⟨by rw [nd_app hg.in_]; exact hf.1, fun i hi => ?_⟩
    rw [nd_app hg.in_] at hi ⊢
    exact full_app N (hg.kid hi) (hf.2 i hi)
theorem sg_app (N : List Nd.N) : ∀ {h : Nat} {p : Pt h} {lo hi : Int}, Sg M h p lo hi → Sg (M ++ N) h p lo hi ∧ cont (M ++ N) h p = cont M h p ∧ (Fl M h p → Fl (M ++ N) h p)
  | 0, p, lo, hi, hp => ⟨hp, rfl, fun _ => trivial⟩
  | h + 1, .inl b, lo, hi, hp => by
    obtain ⟨h1, h2, h3⟩ := hp
    obtain ⟨g1, g2⟩ := h3.app (L' := N)
    exact ⟨⟨h1, h2, g1⟩, g2, fun hf => full_app N h3 hf⟩
  | h + 1, .inr l, lo, hi, hp => by
    have hm := Ch.mem hp
    refine ⟨Ch.imp (fun x _ a b hx => (sg_app N hx).1) hp, ?_, fun hf => ⟨hf.1, fun q hq => ?_⟩⟩
    · show l.flatMap (cont (M ++ N) h) = l.flatMap (cont M h)
      rw [List.flatMap_def, List.flatMap_def]
      congr 1
      refine List.map_congr_left fun x hx => ?_
      obtain ⟨a, b, hab⟩ := hm x hx
      exact (sg_app N hab).2.1
    · obtain ⟨a, b, hab⟩ := hm q hq
      exact (sg_app N hab).2.2 (hf.2 q hq)
theorem ch_app (N : List Nd.N) {h : Nat} {l : List (Pt h)} {lo hi : Int} (hl : Ch (Sg M h) l lo hi) : Ch (Sg (M ++ N) h) l lo hi ∧ conts (M ++ N) l = conts M l ∧ ∀ q ∈ l, Fl M h q → Fl (M ++ N) h q := by
  have hm := Ch.mem hl
  refine ⟨Ch.imp (fun x _ a b hx => (sg_app N hx).1) hl, ?_, fun q hq hf => ?_⟩
  · unfold conts
    rw [List.flatMap_def, List.flatMap_def]
    congr 1
    refine List.map_congr_left fun x hx => ?_
    obtain ⟨a, b, hab⟩ := hm x hx
    exact (sg_app N hab).2.1
  · obtain ⟨a, b, hab⟩ := hm q hq
    exact (sg_app N hab).2.2 hf
/-- A part that holds something begins at its first key. -/
theorem sg_key : ∀ {h : Nat} {p : Pt h} {lo hi : Int}, Sg M h p lo hi → Wf h p → 0 < wt h p → lo ≤ keyP h p ∧ keyP h p < hi ∧ Sg M h p (keyP h p) hi
  | 0, p, lo, hi, ⟨h0, h1, h2⟩, _, _ => ⟨h1, h2, h0, Int.le_refl _, h2⟩
  | h + 1, .inl b, lo, hi, ⟨h0, ⟨h1, h2, h3⟩, h4⟩, _, _ => ⟨h1, (by show b.f < hi; omega), h0, ⟨Int.le_refl _, h2, h3⟩, h4⟩
  | h + 1, .inr [], lo, hi, _, _, hw => absurd hw (Nat.lt_irrefl _)
  | h + 1, .inr (q :: r), lo, hi, ⟨m, h1, h2⟩, hw, _ => by
    obtain ⟨w1, w2⟩ := hw q (List.mem_cons_self ..)
    obtain ⟨k1, k2, k3⟩ := sg_key h1 w1 w2
    have := Ch.le (sg_mo M h) h2
    exact ⟨k1, by show keyP h q < hi; omega, ⟨m, k3, h2⟩⟩
/-- What lies below ascends, between the bounds. -/
theorem sg_cont : ∀ {h : Nat} {p : Pt h} {lo hi : Int}, Sg M h p lo hi → Asc (cont M h p) ∧ ∀ e ∈ cont M h p, lo ≤ e.k ∧ e.k < hi
  | 0, p, lo, hi, ⟨h0, h1, h2⟩ => ⟨List.pairwise_singleton _ _, fun e he => by
    have : e = p := List.mem_singleton.1 he
    subst this
    exact ⟨h1, h2⟩⟩
  | h + 1, .inl b, lo, hi, ⟨h0, ⟨h1, h2, h3⟩, h4⟩ => ⟨h4.asc, fun e he => by have := h4.within e he; omega⟩
  | h + 1, .inr l, lo, hi, hp => by
    have K : ∀ (l : List (Pt h)) (lo hi : Int), Ch (Sg M h) l lo hi → Asc (l.flatMap (cont M h)) ∧ ∀ e ∈ l.flatMap (cont M h), lo ≤ e.k ∧ e.k < hi := by
      intro l
      induction l with
      | nil => exact fun _ _ _ => ⟨List.Pairwise.nil, fun e he => by cases he⟩
      | cons x l ih =>
        rintro lo hi ⟨m, h1, h2⟩
        obtain ⟨a1, a2⟩ := sg_cont h1
        obtain ⟨b1, b2⟩ := ih m hi h2
        have hm1 := (sg_mo M h).le h1
        have hm2 := Ch.le (sg_mo M h) h2
        rw [List.flatMap_cons]
        refine ⟨List.pairwise_append.2 ⟨a1, b1, fun y hy z hz => ?_⟩, fun e he => ?_⟩
        · have := a2 y hy; have := b2 z hz; omega
        · rcases List.mem_append.1 he with he | he
          · have := a2 e he; omega
          · have := b2 e he; omega
    exact K l lo hi hp
theorem ch_cont {h : Nat} {l : List (Pt h)} {lo hi : Int} (hl : Ch (Sg M h) l lo hi) : Asc (conts M l) ∧ ∀ e ∈ conts M l, lo ≤ e.k ∧ e.k < hi := sg_cont (h := h + 1) (p := frs l) hl
theorem asc_few : ∀ {m : List E} {lo hi : Int}, Asc m → (∀ e ∈ m, lo ≤ e.k ∧ e.k < hi) → lo ≤ hi → (m.length : Int) ≤ hi - lo
  | [], lo, hi, _, _, h => by show (0 : Int) ≤ _; omega
  | x :: m, lo, hi, ha, hb, h => by
    obtain ⟨h1, h2⟩ := List.pairwise_cons.1 ha
    have hx := hb x (List.mem_cons_self ..)
    have := asc_few (m := m) (lo := x.k + 1) (hi := hi) h2 (fun e he => ⟨by have := h1 e he; omega, (hb e (List.mem_cons_of_mem _ he)).2⟩) (by omega)
    rw [List.length_cons]
    omega
/-- What is full holds much. -/
theorem full_many : ∀ {h : Nat} {a : Int}, FullT M h a → 4 ^ (h + 1) ≤ (ent M h a).length
  | 0, a, hf => by
    show 4 ^ 1 ≤ (leaf (nd M a)).length
    have : (leaf (nd M a)).length = (nd M a).ks.length := (List.length_map ..).trans (List.length_range ..)
    rw [this]
    exact hf
  | h + 1, a, ⟨h4, hk⟩ => by
    have K : ∀ n : Nat, n ≤ (nd M a).ks.length → n * 4 ^ (h + 1) ≤ ((List.range n).flatMap fun i => ent M h (Nd.t3 (nd M a).cs i).1).length := by
      intro n
      induction n with
      | zero => intro _; rw [Nat.zero_mul]; exact Nat.zero_le _
      | succ n ih =>
        intro hn
        have h1 := ih (by omega)
        have h2 := full_many (hk n hn)
        rw [List.range_succ, List.flatMap_append, List.length_append, List.flatMap_cons, List.flatMap_nil, List.append_nil, Nat.add_mul, Nat.one_mul]
        omega
    have := K _ (Nat.le_refl _)
    rw [Nat.pow_succ, Nat.mul_comm]
    exact Nat.le_trans (Nat.mul_le_mul_right _ h4) this
theorem fl_many : ∀ {h : Nat} {p : Pt h}, Fl M h p → 4 ^ h ≤ (cont M h p).length
  | 0, _, _ => Nat.le_refl _
  | h + 1, .inl b, hf => full_many hf
  | h + 1, .inr l, ⟨h4, hk⟩ => by
    have K : ∀ l : List (Pt h), (∀ q ∈ l, Fl M h q) → l.length * 4 ^ h ≤ (l.flatMap (cont M h)).length := by
      intro l
      induction l with
      | nil => intro _; rw [List.length_nil, Nat.zero_mul]; exact Nat.zero_le _
      | cons x l ih =>
        intro hl
        have h1 := ih fun q hq => hl q (List.mem_cons_of_mem _ hq)
        have h2 := fl_many (hl x (List.mem_cons_self ..))
        rw [List.flatMap_cons, List.length_append, List.length_cons, Nat.add_mul, Nat.one_mul]
        omega
    have := K l hk
    rw [Nat.pow_succ, Nat.mul_comm]
    exact Nat.le_trans (Nat.mul_le_mul_right _ h4) this
theorem fls_many {h : Nat} : ∀ {l : List (Pt h)}, (∀ q ∈ l, Fl M h q) → l.length * 4 ^ h ≤ (conts M l).length
  | [], _ => by rw [List.length_nil, Nat.zero_mul]; exact Nat.zero_le _
  | x :: l, hl => by
    have h1 := fls_many (l := l) fun q hq => hl q (List.mem_cons_of_mem _ hq)
    have h2 := fl_many (hl x (List.mem_cons_self ..))
    rw [conts_cons, List.length_append, List.length_cons, Nat.add_mul, Nat.one_mul]
    omega
/-- Parts of the whole: as many as 512 keys allow. -/
theorem ch_few {h : Nat} {l : List (Pt h)} (hl : Ch (Sg M h) l 0 512) (hf : ∀ q ∈ l, Fl M h q) : l.length * 4 ^ h ≤ 512 := by
  obtain ⟨h1, h2⟩ := ch_cont hl
  have h3 := asc_few h1 h2 (by decide)
  have h4 := fls_many hf
  omega
end
/-- How many nodes are to be saved. -/
def nf : (h : Nat) → Pt h → Nat
  | 0, _ => 0
  | _ + 1, .inl _ => 0
  | h + 1, .inr l => 1 + (l.map (nf h)).sum
def nfs {h : Nat} (l : List (Pt h)) : Nat := (l.map (nf h)).sum
theorem nfs_cons {h : Nat} (x : Pt h) (l : List (Pt h)) : nfs (x :: l) = nf h x + nfs l := by unfold nfs; rw [List.map_cons, List.sum_cons]
theorem nf_frs {h : Nat} (l : List (Pt h)) : nf (h + 1) (frs l) = 1 + nfs l := rfl
theorem nf_pot : ∀ {h : Nat} (p : Pt h), nf h p ≤ pot h p
  | 0, _ => Nat.le_refl _
  | _ + 1, .inl _ => Nat.le_refl _
  | h + 1, .inr l => by
    have K : ∀ l : List (Pt h), (l.map (nf h)).sum ≤ (l.map (pot h)).sum := by
      intro l
      induction l with
      | nil => exact Nat.le_refl _
      | cons x l ih =>
        have := nf_pot x
        rw [List.map_cons, List.map_cons, List.sum_cons, List.sum_cons]
        omega
    have h1 := K l
    have h2 := own_pos l.length
    show 1 + (l.map (nf h)).sum ≤ (l.map (pot h)).sum + own l.length
    omega
theorem nfs_pots {h : Nat} : ∀ l : List (Pt h), nfs l ≤ pots l
  | [] => Nat.le_refl _
  | x :: l => by
    have h1 := nf_pot x
    have h2 := nfs_pots l
    rw [nfs_cons, pots_cons]
    omega
/-- Saves, so far, and nodes are as many. -/
def Inv (st : MSt) : Prop := st.sv = (st.L.length : Int) ∧ st.L.length ≤ 8001
/-- More is saved: n nodes. -/
structure Mor (st st' : MSt) (n : Nat) : Prop where
  L : ∃ l, st'.L = st.L ++ l ∧ l.length = n
  bl : st'.bl = st.bl
  bs : st'.bs = st.bs
  inv : Inv st → Inv st'
theorem Mor.refl (st : MSt) : Mor st st 0 := ⟨⟨[], (List.append_nil _).symm, rfl⟩, rfl, rfl, fun h => h⟩
theorem Mor.trans {a b c : MSt} {n m : Nat} (h : Mor a b n) (k : Mor b c m) : Mor a c (n + m) := by
  obtain ⟨l, h1, h2⟩ := h.L
  obtain ⟨r, k1, k2⟩ := k.L
  exact ⟨⟨l ++ r, by rw [k1, h1, List.append_assoc], by rw [List.length_append, h2, k2]⟩, k.bl.trans h.bl, k.bs.trans h.bs, fun hi => k.inv (h.inv hi)⟩
/-- A save failed: at most n nodes were saved ahead. -/
structure E7 (st : MSt) (n : Nat) (st' : MSt) (e : Int) : Prop where
  L : ∃ l, st'.L = st.L ++ l ∧ l.length ≤ n
  bl : st'.bl = st.bl
  bs : st'.bs = st.bs
  e : e = 7
  why : 0 < st.bs ∨ 8000 < st'.L.length
theorem E7.mono {st st' : MSt} {n n' : Nat} {e : Int} (h : E7 st n st' e) (hn : n ≤ n') : E7 st n' st' e := by
  obtain ⟨l, h1, h2⟩ := h.L
  exact ⟨⟨l, h1, Nat.le_trans h2 hn⟩, h.bl, h.bs, h.e, h.why⟩
theorem E7.from_ {st st1 st' : MSt} {n m : Nat} {e : Int} (h : Mor st st1 n) (k : E7 st1 m st' e) : E7 st (n + m) st' e := by
  obtain ⟨l, h1, h2⟩ := h.L
  obtain ⟨r, k1, k2⟩ := k.L
  exact ⟨⟨l ++ r, by rw [k1, h1, List.append_assoc], by rw [List.length_append]; omega⟩, k.bl.trans h.bl, k.bs.trans h.bs, k.e, h.bs ▸ k.why⟩
theorem saveN_mem {st : MSt} {n : Nd.N} (ho : Nd.Ok n) : Ends (saveN mem st n) (fun st' k => Mor st st' 1 ∧ nd st'.L k.1 = n ∧ In st'.L k.1 ∧ Nd.KidOk k) (E7 st 0) := by
  unfold saveN
  rw [if_pos ho]
  unfold mem
  dsimp only
  by_cases hc : (0 < st.bs ∧ st.bs ≤ wrap64 (st.sv + 1)) ∨ 8000 < st.L.length
  · rw [if_pos hc]
    refine ⟨⟨[], (List.append_nil _).symm, Nat.le_refl _⟩, rfl, rfl, rfl, ?_⟩
    rcases hc with hc | hc
    · exact .inl hc.1
    · exact .inr hc
  · rw [if_neg hc]
    obtain ⟨h1, h2⟩ := nd_new st.L n
    refine ⟨⟨⟨[n], rfl, rfl⟩, rfl, rfl, fun hi => ?_⟩, h1, h2, ⟨by show (0 : Int) ≤ (st.L.length : Int) + 2; omega, by show (st.L.length : Int) + 2 < 8192; omega, (show (1 : Int) ≤ 1 by decide), (show (1 : Int) ≤ 128 by decide), by show (1 : Int) ≤ 8192 - ((st.L.length : Int) + 2); omega⟩, (show (0 : Int) ≤ 7 by decide), (show (7 : Int) < 268435456 by decide)⟩
    obtain ⟨i1, i2⟩ := hi
    refine ⟨?_, ?_⟩
    · show wrap64 (st.sv + 1) = ((st.L ++ [n]).length : Int)
      rw [List.length_append, List.length_singleton, i1]
      simp only [wrap64]
      omega
    · show (st.L ++ [n]).length ≤ 8001
      rw [List.length_append, List.length_singleton]
      omega
/-- Parts and the kids that were saved for them. -/
def KG (M : List Nd.N) {h : Nat} : List (Pt (h + 1)) → List Nd.T3 → Int → Int → Prop
  | [], [], lo, hi => lo ≤ hi
  | p :: l, k :: ks, lo, hi => ∃ m, (lo ≤ keyP (h + 1) p ∧ keyP (h + 1) p < m) ∧ Good M h k.1 (keyP (h + 1) p) m ∧ Nd.KidOk k ∧ KG M l ks m hi
  | [], _ :: _, _, _ => False
  | _ :: _, [], _, _ => False
theorem KG.app {M : List Nd.N} (N : List Nd.N) {h : Nat} : ∀ {l : List (Pt (h + 1))} {ks : List Nd.T3} {lo hi : Int}, KG M l ks lo hi → KG (M ++ N) l ks lo hi
  | [], [], _, _, hk => hk
  | _ :: _, _ :: _, _, _, ⟨m, h1, h2, h3, h4⟩ => ⟨m, h1, (h2.app).1, h3, h4.app N⟩
  | [], _ :: _, _, _, hk => hk.elim
  | _ :: _, [], _, _, hk => hk.elim
theorem at_map {α : Type} {f : α → Int} (x : α) (l : List α) (i : Nat) : Nd.at_ ((x :: l).map f) (i + 1) = Nd.at_ (l.map f) i := by
  unfold Nd.at_
  rw [List.map_cons, List.getD_cons_succ]
theorem KG.at_ {M : List Nd.N} {h : Nat} : ∀ {l : List (Pt (h + 1))} {ks : List Nd.T3} {lo hi : Int}, KG M l ks lo hi → lo ≤ hi ∧ ks.length = l.length ∧ (∀ i, i < l.length → (lo ≤ Nd.at_ (l.map (keyP (h + 1))) i ∧ Nd.at_ (l.map (keyP (h + 1))) i < hi) ∧ Nd.KidOk (Nd.t3 ks i) ∧ Good M h (Nd.t3 ks i).1 (Nd.at_ (l.map (keyP (h + 1))) i) (if i + 1 < l.length then Nd.at_ (l.map (keyP (h + 1))) (i + 1) else hi)) ∧ ∀ i, i + 1 < l.length → Nd.at_ (l.map (keyP (h + 1))) i < Nd.at_ (l.map (keyP (h + 1))) (i + 1)
  | [], [], lo, hi, hk => ⟨hk, rfl, fun i hi => absurd hi (Nat.not_lt_zero _), fun i hi => absurd hi (Nat.not_lt_zero _)⟩
  | p :: l, k :: ks, lo, hi, ⟨m, ⟨h1, h1'⟩, h2, h3, h4⟩ => by
    obtain ⟨i1, i2, i3, i4⟩ := h4.at_
    have e0 : Nd.at_ ((p :: l).map (keyP (h + 1))) 0 = keyP (h + 1) p := rfl
    refine ⟨by omega, by rw [List.length_cons, List.length_cons, i2], fun i hil => ?_, fun i hi => ?_⟩
    · cases i with
      | zero =>
        rw [e0]
        refine ⟨⟨h1, by omega⟩, h3, h2.mono (Int.le_refl _) ?_⟩
        split
        · rename_i hl
          rw [at_map]
          exact (i3 0 (by simpa using hl)).1.1
        · exact i1
      | succ i =>
        have hl : i < l.length := by simpa using hil
        obtain ⟨j1, j2, j3⟩ := i3 i hl
        rw [at_map]
        refine ⟨⟨by omega, j1.2⟩, j2, ?_⟩
        have e1 : Nd.t3 (k :: ks) (i + 1) = Nd.t3 ks i := by unfold Nd.t3; rw [List.getD_cons_succ]
        rw [e1]
        have e2 : (if i + 1 + 1 < (p :: l).length then Nd.at_ ((p :: l).map (keyP (h + 1))) (i + 1 + 1) else hi) = if i + 1 < l.length then Nd.at_ (l.map (keyP (h + 1))) (i + 1) else hi := by
          rw [at_map, List.length_cons]
          by_cases c : i + 1 < l.length
          · rw [if_pos c, if_pos (by omega)]
          · rw [if_neg c, if_neg (by omega)]
        rw [e2]
        exact j3
    · cases i with
      | zero =>
        rw [e0, at_map]
        have := (i3 0 (by simpa using hi)).1.1
        omega
      | succ i =>
        rw [at_map, at_map]
        exact i4 i (by simpa using hi)
  | [], _ :: _, _, _, hk => hk.elim
  | _ :: _, [], _, _, hk => hk.elim
/-- Full parts have full kids. -/
def KF (M : List Nd.N) (h : Nat) (ks : List Nd.T3) : Prop := ∀ k ∈ ks, FullT M h k.1
/-- What a save answers. -/
def SvO (h : Nat) (st : MSt) (l : List (Pt h)) (lo hi : Int) : Prop := Ends (save mem h st l) (fun st' k => Mor st st' (1 + nfs l) ∧ Good st'.L h k.1 lo hi ∧ ent st'.L h k.1 = conts st.L l ∧ Nd.KidOk k ∧ ((∀ q ∈ l, Fl st.L h q) → KidsF st'.L h k.1 ∧ (nd st'.L k.1).ks.length = l.length)) (E7 st (nfs l))
def SvG (h : Nat) : Prop := ∀ {st : MSt} {l : List (Pt h)} {lo hi : Int}, 0 ≤ lo → hi ≤ 512 → Ch (Sg st.L h) l lo hi → Wfs l → l.length ≤ 8 → (∀ q ∈ l, Thin h q) → (0 < h → l ≠ []) → SvO h st l lo hi
theorem saveKids_good {h : Nat} (hS : SvG h) : ∀ {l : List (Pt (h + 1))} {st : MSt} {lo hi : Int}, 0 ≤ lo → hi ≤ 512 → Ch (Sg st.L (h + 1)) l lo hi → Wfs l → (∀ q ∈ l, Thin (h + 1) q) →
    Ends (saveKids (save mem h) l st) (fun st' ks => Mor st st' (nfs l) ∧ KG st'.L l ks lo hi ∧ (ks.flatMap fun k => ent st'.L h k.1) = conts st.L l ∧ ((∀ q ∈ l, Fl st.L (h + 1) q) → KF st'.L h ks)) (E7 st (nfs l))
  | [], st, lo, hi, _, _, hc, _, _ => ⟨Mor.refl _, hc, rfl, fun _ k hk => by cases hk⟩
  | .inl b :: l, st, lo, hi, hlo, hhi, ⟨m, hp, hc⟩, hw, ht => by
    obtain ⟨⟨a1, a2⟩, ⟨a3, a4, a5⟩, a6⟩ := hp
    have hm : lo ≤ m := by omega
    have hmh := Ch.le (sg_mo _ _) hc
    have ih := saveKids_good hS (l := l) (st := st) (lo := m) (hi := hi) (by omega) hhi hc (fun q hq => hw q (List.mem_cons_of_mem _ hq)) fun q hq => ht q (List.mem_cons_of_mem _ hq)
    have en : nfs (old b :: l) = nfs l := by
      rw [nfs_cons]
      exact Nat.zero_add _
    unfold saveKids
    rcases e : saveKids (save mem h) l st with ⟨st', er | ks⟩
    · rw [e] at ih
      exact E7.mono ih (Nat.le_of_eq en.symm)
    · rw [e] at ih
      obtain ⟨i1, i2, i3, i4⟩ := ih
      obtain ⟨N, hN, -⟩ := i1.L
      have ga := a6.app (L' := N)
      rw [← hN] at ga
      refine ⟨en.symm ▸ i1, ⟨m, ⟨a3, by show b.f < m; omega⟩, ga.1.mono (Int.le_refl _) a5, a1, i2⟩, ?_, fun hf k hk => ?_⟩
      · show ent st'.L h b.k.1 ++ (ks.flatMap fun k => ent st'.L h k.1) = _
        rw [i3, ga.2]
        exact (conts_cons st.L (old b) l).symm
      · rcases List.mem_cons.1 hk with rfl | hk
        · have := full_app N a6 (hf (old b) (List.mem_cons_self ..))
          rw [← hN] at this
          exact this
        · exact i4 (fun q hq => hf q (List.mem_cons_of_mem _ hq)) k hk
  | .inr p :: l, st, lo, hi, hlo, hhi, ⟨m, hp, hc⟩, hw, ht => by
    obtain ⟨w1, w2⟩ := hw (frs p) (List.mem_cons_self ..)
    obtain ⟨k1, k2, k3⟩ := sg_key (p := frs p) hp w1 w2
    have t0 := ht (frs p) (List.mem_cons_self ..)
    have hmh := Ch.le (sg_mo _ _) hc
    have hne : p ≠ [] := fun e => by subst e; exact absurd w2 (Nat.lt_irrefl _)
    have hs := hS (st := st) (l := p) (lo := keyP (h + 1) (frs p)) (hi := m) (by omega) (by omega) k3 w1 t0.1 t0.2 fun _ => hne
    have en : nfs (frs p :: l) = 1 + nfs p + nfs l := by rw [nfs_cons, nf_frs]
    unfold saveKids
    unfold SvO at hs
    rcases e : save mem h st p with ⟨st1, er | k⟩
    · rw [e] at hs
      exact E7.mono hs (by show nfs p ≤ nfs (frs p :: l); omega)
    · rw [e] at hs
      obtain ⟨s1, s2, s3, s4, s5⟩ := hs
      obtain ⟨N1, hN1, -⟩ := s1.L
      have hca := ch_app N1 hc
      rw [← hN1] at hca
      have ih := saveKids_good hS (l := l) (st := st1) (lo := m) (hi := hi) (by omega) hhi hca.1 (fun q hq => hw q (List.mem_cons_of_mem _ hq)) fun q hq => ht q (List.mem_cons_of_mem _ hq)
      dsimp only
      rcases e2 : saveKids (save mem h) l st1 with ⟨st2, er | ks⟩
      · rw [e2] at ih
        exact (E7.from_ s1 ih).mono (by show _ ≤ nfs (frs p :: l); omega)
      · rw [e2] at ih
        obtain ⟨i1, i2, i3, i4⟩ := ih
        obtain ⟨N2, hN2, -⟩ := i1.L
        have ga := s2.app (L' := N2)
        rw [← hN2] at ga
        refine ⟨(show nfs (frs p :: l) = 1 + nfs p + nfs l from en) ▸ s1.trans i1, ⟨m, ⟨k1, k2⟩, ga.1, s4, i2⟩, ?_, fun hf q hq => ?_⟩
        · show ent st2.L h k.1 ++ (ks.flatMap fun k => ent st2.L h k.1) = _
          rw [i3, ga.2, s3, hca.2.1]
          exact (conts_cons st.L (frs p) l).symm
        · rcases List.mem_cons.1 hq with rfl | hq
          · have hfp := hf (frs p) (List.mem_cons_self ..)
            obtain ⟨f1, f2⟩ := s5 hfp.2
            have hft : FullT st1.L h q.1 := by
              cases h with
              | zero => show 4 ≤ _; rw [f2]; exact hfp.1
              | succ h => exact ⟨by rw [f2]; exact hfp.1, f1⟩
            have := full_app N2 s2 hft
            rw [← hN2] at this
            exact this
          · exact i4 (fun q hq => hca.2.2 q hq (hf q (List.mem_cons_of_mem _ hq))) q hq
theorem map_at {α : Type} {f : α → Int} {l : List α} {i : Nat} (hi : i < l.length) : Nd.at_ (l.map f) i = f l[i] := by
  unfold Nd.at_
  rw [List.getD_eq_getElem?_getD, List.getElem?_map, List.getElem?_eq_getElem hi]
  rfl
theorem map_t3 {α : Type} {f : α → Nd.T3} {l : List α} {i : Nat} (hi : i < l.length) : Nd.t3 (l.map f) i = f l[i] := by
  unfold Nd.t3
  rw [List.getD_eq_getElem?_getD, List.getElem?_map, List.getElem?_eq_getElem hi]
  rfl
theorem ch_eok {M : List Nd.N} {l : List (Pt 0)} {lo hi : Int} (hl : Ch (Sg M 0) l lo hi) : ∀ e ∈ (l : List E), EOk e ∧ lo ≤ e.k ∧ e.k < hi := fun e he => by
  obtain ⟨a, b, h1, -, -⟩ := Ch.mem hl e he
  obtain ⟨-, h3⟩ := ch_cont hl
  rw [conts_zero] at h3
  exact ⟨h1, h3 e he⟩
theorem leafN_ok {l : List E} {lo hi : Int} (hE : ∀ e ∈ l, EOk e ∧ lo ≤ e.k ∧ e.k < hi) (hA : Asc l) (h8 : l.length ≤ 8) : Nd.Ok (leafN l) ∧ (leafN l).ks.length = l.length ∧ ∀ i, i < l.length → lo ≤ Nd.at_ (leafN l).ks i ∧ Nd.at_ (leafN l).ks i < hi := by
  have hln : (leafN l).ks.length = l.length := List.length_map ..
  have hat : ∀ i (hi : i < l.length), Nd.at_ (leafN l).ks i = l[i].k := fun i hi => map_at hi
  refine ⟨⟨Int.le_refl _, (show (0 : Int) < 6 by decide), hln ▸ h8, fun i hi => ?_, fun i hi => ?_, fun _ => ⟨?_, ?_, rfl, fun i hi => ?_⟩, fun h => absurd rfl h⟩, hln, fun i hi => ?_⟩
  · rw [hln] at hi
    rw [hat i hi]
    exact (hE _ (List.getElem_mem hi)).1.1
  · rw [hln] at hi
    rw [hat i (by omega), hat (i + 1) hi]
    exact List.pairwise_iff_getElem.1 hA i (i + 1) (by omega) hi (by omega)
  · exact (List.length_map ..).trans hln.symm
  · exact (List.length_map ..).trans hln.symm
  · rw [hln] at hi
    rw [show Nd.t3 (leafN l).ps i = l[i].p from map_t3 hi, show Nd.at_ (leafN l).gs i = l[i].g from map_at hi]
    exact (hE _ (List.getElem_mem hi)).1.2
  · rw [hat i hi]
    exact (hE _ (List.getElem_mem hi)).2
theorem save_leaf {st : MSt} {l : List E} {lo hi : Int} (hE : ∀ e ∈ l, EOk e ∧ lo ≤ e.k ∧ e.k < hi) (hA : Asc l) (h8 : l.length ≤ 8) : Ends (saveN mem st (leafN l)) (fun st' k => Mor st st' 1 ∧ Good st'.L 0 k.1 lo hi ∧ leaf (nd st'.L k.1) = l ∧ Nd.KidOk k ∧ (nd st'.L k.1).ks.length = l.length) (E7 st 0) := by
  obtain ⟨ok, hln, hkey⟩ := leafN_ok hE hA h8
  refine (saveN_mem (st := st) ok).mono (fun st' k hk => ?_) fun _ _ h => h
  obtain ⟨h1, h2, h3, h4⟩ := hk
  refine ⟨h1, ⟨h3, h2.symm ▸ ok, by rw [h2]; rfl, fun i hi => ?_⟩, ?_, h4, by rw [h2]; exact hln⟩
  · rw [h2] at hi ⊢
    exact hkey i (hln ▸ hi)
  · rw [h2, leafN_leaf]
theorem save_zero_good : SvG 0 := by
  intro st l lo hi hlo hhi hc hw h8 ht _
  have hE := ch_eok hc
  have hA : Asc l := by have := (ch_cont hc).1; rw [conts_zero] at this; exact this
  have en : nfs l = 0 := by
    have := nfs_pots l
    rw [pots_zero] at this
    omega
  have hs := save_leaf (st := st) (l := l) hE hA h8
  unfold SvO
  rw [en, conts_zero]
  refine Ends.mono (r := saveN mem st (leafN l)) hs (fun st' k hk => ?_) fun _ _ h => h
  obtain ⟨h1, h2, h3, h4, h5⟩ := hk
  exact ⟨h1, h2, h3, h4, fun _ => ⟨trivial, h5⟩⟩
theorem save_good : ∀ {h : Nat}, h ≤ 5 → SvG h
  | 0, _ => save_zero_good
  | h + 1, h5 => by
    rename_i st lo hi l
    intro hlo hhi hc hw h8 ht hne
    have hne := hne (Nat.succ_pos _)
    have hk := saveKids_good (save_good (by omega)) hlo hhi hc hw ht
    unfold SvO save
    rcases e : saveKids (save mem h) l st with ⟨st1, er | ks⟩
    · rw [e] at hk; exact hk
    · rw [e] at hk
      obtain ⟨k1, k2, k3, k4⟩ := hk
      obtain ⟨g1, g2, g3, g4⟩ := k2.at_
      have hks : (innerN l ks).ks.length = l.length := List.length_map ..
      have ok : Nd.Ok (innerN l ks) := by
        refine ⟨by show (0 : Int) ≤ ((h + 1 : Nat) : Int); omega, by show ((h + 1 : Nat) : Int) < 6; omega, by rw [hks]; exact h8, fun i hi => ?_, fun i hi => ?_, fun h0 => ?_, fun _ => ⟨?_, ?_, rfl, rfl, fun i hi => ?_⟩⟩
        · have := (g3 i (hks ▸ hi)).1
          show 0 ≤ Nd.at_ (l.map _) i ∧ Nd.at_ (l.map _) i < 512
          omega
        · exact g4 i (hks ▸ hi)
        · have : ((h + 1 : Nat) : Int) = 0 := h0
          omega
        · show ks.length = _
          rw [hks]; exact g2
        · rw [hks]; exact List.length_pos_iff.2 hne
        · exact (g3 i (hks ▸ hi)).2.1
      have hs := saveN_mem (st := st1) ok
      dsimp only
      rcases e2 : saveN mem st1 (innerN l ks) with ⟨st2, er | k⟩
      · rw [e2] at hs
        exact E7.mono (E7.from_ k1 hs) (by omega)
      · rw [e2] at hs
        obtain ⟨s1, s2, s3, s4⟩ := hs
        obtain ⟨N, hN, -⟩ := s1.L
        refine ⟨by have := k1.trans s1; rw [Nat.add_comm] at this; exact this, ⟨s3, s2.symm ▸ ok, by rw [s2]; rfl, fun i hi => ?_⟩, ?_, s4, fun hf => ⟨fun i hi => ?_, by rw [s2]; exact hks⟩⟩
        · rw [s2] at hi ⊢
          have hi : i < l.length := hks ▸ hi
          obtain ⟨j1, j2, j3⟩ := g3 i hi
          refine ⟨j1, ?_⟩
          unfold next
          rw [hks]
          have := (j3.app (L' := N)).1
          rw [← hN] at this
          exact this
        · show (List.range (nd st2.L k.1).ks.length).flatMap (fun i => ent st2.L h (Nd.t3 (nd st2.L k.1).cs i).1) = _
          rw [s2, hks, ← k3]
          show (List.range l.length).flatMap (fun i => ent st2.L h (Nd.t3 ks i).1) = _
          have hr : ks = (List.range l.length).map (Nd.t3 ks) := by
            refine List.ext_getElem (by rw [List.length_map, List.length_range]; exact g2) fun i h1 h2 => ?_
            rw [List.getElem_map, List.getElem_range]
            unfold Nd.t3
            rw [List.getD_eq_getElem?_getD, List.getElem?_eq_getElem h1]
            rfl
          conv => rhs; rw [hr]
          rw [List.flatMap_map, List.flatMap_def, List.flatMap_def]
          congr 1
          refine List.map_congr_left fun i hi => ?_
          have := ((g3 i (List.mem_range.1 hi)).2.2.app (L' := N)).2
          rw [← hN] at this
          exact this
        · rw [s2] at hi ⊢
          have hi : i < l.length := hks ▸ hi
          have hkm : Nd.t3 ks i ∈ ks := by
            unfold Nd.t3
            rw [List.getD_eq_getElem?_getD, List.getElem?_eq_getElem (by omega)]
            exact List.getElem_mem _
          have := full_app N (g3 i hi).2.2 (k4 hf _ hkm)
          rw [← hN] at this
          exact this
end Tr
end Go.Proofs.Ytlcchefiicalpaa
