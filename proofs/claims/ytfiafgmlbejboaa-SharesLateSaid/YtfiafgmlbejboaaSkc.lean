/- The program's runs with their uses as cells; rows of them; used, late, added; cmp.Compare. -/
import Derived.Test.YtfiafgmlbejboaaSk
import Derived.Test.YtfiafgmlbejboaaSref
import Derived.Test.YtfiafgmlbejboaaRpr
namespace Go.Proofs.Ytfiafgmlbejboaa
open Go.RowKit

/-- The program's runs as cells. -/
def kcs : List Sk.K → List Value
  | [] => []
  | u :: l => .int .i64 (u.1 : Int) :: .int .i64 (u.2.1 : Int) :: .int .i64 (u.2.2.1 : Int) :: .int .i64 (u.2.2.2 : Int) :: kcs l
theorem kcs_len : ∀ l : List Sk.K, (kcs l).length = l.length * 4
  | [] => rfl
  | u :: l => by rw [kcs]; simp only [List.length_cons]; rw [kcs_len l]; omega
theorem kcs_app : ∀ l m : List Sk.K, kcs (l ++ m) = kcs l ++ kcs m
  | [], _ => rfl
  | u :: l, m => by rw [List.cons_append, kcs, kcs, kcs_app l m]; rfl
theorem kcs_at : ∀ {l : List Sk.K} {k : Nat}, k < l.length → (kcs l)[k * 4]? = some (.int .i64 ((Sk.at_ l k).1 : Int)) ∧ (kcs l)[k * 4 + 1]? = some (.int .i64 ((Sk.at_ l k).2.1 : Int)) ∧ (kcs l)[k * 4 + 2]? = some (.int .i64 ((Sk.at_ l k).2.2.1 : Int)) ∧ (kcs l)[k * 4 + 3]? = some (.int .i64 ((Sk.at_ l k).2.2.2 : Int))
  | u :: l, 0, _ => ⟨rfl, rfl, rfl, rfl⟩
  | u :: l, k + 1, h => by
    have := kcs_at (l := l) (k := k) (by simpa using h)
    rw [show (k + 1) * 4 = k * 4 + 1 + 1 + 1 + 1 by omega, kcs]
    simp only [List.getElem?_cons_succ]
    exact this
theorem kcs_take (l : List Sk.K) (k : Nat) : (kcs l).take (k * 4) = kcs (l.take k) := by
  induction l generalizing k with
  | nil => simp [kcs]
  | cons u l ih =>
    cases k with
    | zero => rfl
    | succ k => rw [show (k + 1) * 4 = k * 4 + 1 + 1 + 1 + 1 by omega, kcs, List.take_succ_cons, List.take_succ_cons, List.take_succ_cons, List.take_succ_cons, ih]; rfl
theorem kcs_drop (l : List Sk.K) (k : Nat) : (kcs l).drop (k * 4) = kcs (l.drop k) := by
  induction l generalizing k with
  | nil => simp [kcs]
  | cons u l ih =>
    cases k with
    | zero => rfl
    | succ k => rw [show (k + 1) * 4 = k * 4 + 1 + 1 + 1 + 1 by omega, kcs, List.drop_succ_cons, List.drop_succ_cons, List.drop_succ_cons, List.drop_succ_cons, ih]; rfl
theorem kcs_one (l : List Sk.K) : ∀ u ∈ kcs l, u.oneCell' = true := by
  induction l with
  | nil => simp [kcs]
  | cons a l ih =>
    intro u hu
    rw [kcs] at hu
    simp only [List.mem_cons] at hu
    rcases hu with rfl | rfl | rfl | rfl | hu
    · rfl
    · rfl
    · rfl
    · rfl
    · exact ih u hu
/-- Uses set at one place. -/
theorem kcs_put : ∀ (l : List Sk.K) (k m : Nat), k < l.length → (kcs l).set (k * 4 + 2) (.int .i64 (m : Int)) = kcs (Sk.putU l k m)
  | u :: l, 0, m, _ => rfl
  | u :: l, k + 1, m, h => by
    have := kcs_put l k m (by simpa using h)
    rw [show (k + 1) * 4 + 2 = k * 4 + 2 + 1 + 1 + 1 + 1 by omega, kcs]
    simp only [List.set_cons_succ]
    rw [this]
    rfl
theorem kcs_set : ∀ (l : List Sk.K) (k m : Nat), k < l.length → (kcs l).set (k * 4 + 3) (.int .i64 (m : Int)) = kcs (l.set k ((Sk.at_ l k).1, (Sk.at_ l k).2.1, (Sk.at_ l k).2.2.1, m))
  | u :: l, 0, m, _ => rfl
  | u :: l, k + 1, m, h => by
    have := kcs_set l k m (by simpa using h)
    rw [show (k + 1) * 4 + 3 = k * 4 + 3 + 1 + 1 + 1 + 1 by omega, kcs]
    simp only [List.set_cons_succ]
    rw [this]
    rfl
theorem share_parts : ∃ i, Try.prog.info? 78 = some i ∧ i.zero = some (.agg #[.int .i64 0, .int .i64 0, .int .i64 0, .int .i64 0]) ∧ i.size = 4 ∧ i.bytes = 32 := by
  have h : (Try.prog.info? 78).map (fun i => (i.zero, i.size, i.bytes)) = some (some (.agg #[.int .i64 0, .int .i64 0, .int .i64 0, .int .i64 0]), 4, 32) := by kernel_rfl
  obtain ⟨i, hi, hh⟩ := Option.map_eq_some_iff.1 h
  simp only [Prod.mk.injEq] at hh
  exact ⟨i, hi, hh.1, hh.2.1, hh.2.2⟩
/-- A row of the program's runs of one's own. -/
abbrev OwnK (w : World) (B : Nat) (v : Value) (l : List Sk.K) : Prop := w.ownsRow B 78 4 v l.length (kcs l)
theorem ownK_at {w : World} {B : Nat} {v : Value} {l : List Sk.K} (h : OwnK w B v l) (hn : 0 < l.length) : ∃ g c, v = .slice (some ⟨g, 0, none⟩) l.length c ∧ B ≤ g ∧ g < w.heap.size ∧
    ∀ k, k < l.length → w.cell? ⟨g, k * 4, none⟩ = some (.int .i64 ((Sk.at_ l k).1 : Int)) ∧ w.cell? ⟨g, k * 4 + 1, none⟩ = some (.int .i64 ((Sk.at_ l k).2.1 : Int)) ∧ w.cell? ⟨g, k * 4 + 2, none⟩ = some (.int .i64 ((Sk.at_ l k).2.2.1 : Int)) ∧ w.cell? ⟨g, k * 4 + 3, none⟩ = some (.int .i64 ((Sk.at_ l k).2.2.2 : Int)) := by
  have hlt := h.lt
  rcases h.2 with ⟨h', h0⟩ | ⟨g, cap, cur, h', hg, _⟩
  · omega
  · subst h'
    refine ⟨g, cap, rfl, hg, (hlt g rfl).2, fun k hk => ?_⟩
    obtain ⟨e1, e2, e3, e4⟩ := kcs_at hk
    exact ⟨by rw [h.cellAt (k * 4) (by omega), e1], by rw [h.cellAt (k * 4 + 1) (by omega), e2], by rw [h.cellAt (k * 4 + 2) (by omega), e3], by rw [h.cellAt (k * 4 + 3) (by omega), e4]⟩
theorem ownK_slice {w : World} {B : Nat} {v : Value} {l : List Sk.K} (h : OwnK w B v l) : ∃ A c, v = .slice A l.length c ∧ l.length ≤ c ∧ (A = none → c = 0) := by
  obtain ⟨A, c, rfl⟩ := own_slice h
  exact ⟨A, c, rfl, own_len h, own_none h⟩
theorem ownK_keep {w w' : World} {B : Nat} {v : Value} {l : List Sk.K} (h : OwnK w B v l) (hk : ∀ b, v.ownBlock = some b → w'.heap[b]? = w.heap[b]?) : OwnK w' B v l := own_keep h fun b hb _ => hk b hb
/-- Bounds that keep all sums far from overflow. -/
structure KB (l : List Sk.K) : Prop where
  few : l.length ≤ 100000
  at_ : ∀ k, (Sk.at_ l k).1 ≤ 1000000 ∧ (Sk.at_ l k).2.1 ≤ 1000000 ∧ (Sk.at_ l k).2.2.1 ≤ 1000000000 ∧ (Sk.at_ l k).2.2.2 ≤ 1000000000
theorem kb_of {l : List Sk.K} (h1 : UOk (Sk.ofN l)) (h2 : UOk (Sk.ofW l)) : KB l := by
  refine ⟨by rw [← Sk.ofN_len]; exact h1.1, fun k => ?_⟩
  rcases Nat.lt_or_ge k l.length with hk | hk
  · have hm : Sk.at_ l k ∈ l := by rw [Sk.at_eq hk]; exact List.getElem_mem hk
    obtain ⟨a1, a2, a3⟩ := h1.2 (Sk.toN (Sk.at_ l k)) (List.mem_map.2 ⟨_, hm, rfl⟩)
    refine ⟨a1, a2, a3, ?_⟩
    cases hA : Sk.isA (Sk.at_ l k) with
    | true => have : (Sk.at_ l k).2.2.2 = 0 := by simpa [Sk.isA] using hA
              omega
    | false => exact (h2.2 (Sk.toW (Sk.at_ l k)) (List.mem_map.2 ⟨_, List.mem_filter.2 ⟨hm, by simp [hA]⟩, rfl⟩)).2.2
  · unfold Sk.at_
    rw [List.getD_eq_getElem?_getD, List.getElem?_eq_none hk]
    exact ⟨by decide, by decide, by decide, by decide⟩
/-- A run with its uses as a value. -/
def kv (k : Sk.K) : Value := .agg #[.int .i64 (k.1 : Int), .int .i64 (k.2.1 : Int), .int .i64 (k.2.2.1 : Int), .int .i64 (k.2.2.2 : Int)]
/-- What late, used, added are: functions of a run, without a change of older memory. -/
def PredC (f : FuncId) (p : Sk.K → Bool) : Prop := ∀ (a b c d : Nat) (w : World), Calls Try.prog f #[.agg #[.int .i64 (a : Int), .int .i64 (b : Int), .int .i64 (c : Int), .int .i64 (d : Int)]] w fun e w' => e = .returned (.bool (p (a, b, c, d))) ∧ Below w.heap.size w w'

set_option maxHeartbeats 1000000 in
theorem klate_any : PredC 60 Sk.isL := by
  intro a b c d w
  obtain ⟨W, hW⟩ : ∃ W, w.alloc (.cells #[.int .i64 (a : Int), .int .i64 (b : Int), .int .i64 (c : Int), .int .i64 (d : Int)] 78) = W := ⟨_, rfl⟩
  obtain ⟨g, hg⟩ : ∃ g, w.heap.size = g := ⟨_, rfl⟩
  have bx : Blk W g 78 #[.int .i64 (a : Int), .int .i64 (b : Int), .int .i64 (c : Int), .int .i64 (d : Int)] := by rw [← hW, ← hg]; exact Blk.new _ _ _
  have x2 : W.cell? ⟨g, 2, none⟩ = some (.int .i64 (c : Int)) := bx.cell 2
  have x3 : W.cell? ⟨g, 3, none⟩ = some (.int .i64 (d : Int)) := bx.cell 3
  have HB := Lib.hid (show Below g w W by rw [← hW, ← hg]; exact (Below.refl _ _).alloc (Nat.le_refl _) _)
  rw [hg]
  clear bx
  obtain ⟨P, hP⟩ : ∃ P, P = Sk.isL (a, b, c, d) := ⟨_, rfl⟩
  rw [← hP]
  have z1 : ((c : Int) == 0) = P := by
    rw [hP]
    show ((c : Int) == 0) = (c == 0)
    cases hb : (c == 0) with
    | true => rw [beq_iff_eq] at hb ⊢; omega
    | false => rw [beq_eq_false_iff_ne] at hb ⊢; omega
  clear hP
  go_enter Try.func60, Try.ntmps60
  go_wp2_with fail
  go_ret
  exact ⟨rfl, HB.out⟩

set_option maxHeartbeats 1000000 in
theorem kadded_any : PredC 61 Sk.isA := by
  intro a b c d w
  obtain ⟨W, hW⟩ : ∃ W, w.alloc (.cells #[.int .i64 (a : Int), .int .i64 (b : Int), .int .i64 (c : Int), .int .i64 (d : Int)] 78) = W := ⟨_, rfl⟩
  obtain ⟨g, hg⟩ : ∃ g, w.heap.size = g := ⟨_, rfl⟩
  have bx : Blk W g 78 #[.int .i64 (a : Int), .int .i64 (b : Int), .int .i64 (c : Int), .int .i64 (d : Int)] := by rw [← hW, ← hg]; exact Blk.new _ _ _
  have x2 : W.cell? ⟨g, 2, none⟩ = some (.int .i64 (c : Int)) := bx.cell 2
  have x3 : W.cell? ⟨g, 3, none⟩ = some (.int .i64 (d : Int)) := bx.cell 3
  have HB := Lib.hid (show Below g w W by rw [← hW, ← hg]; exact (Below.refl _ _).alloc (Nat.le_refl _) _)
  rw [hg]
  clear bx
  obtain ⟨P, hP⟩ : ∃ P, P = Sk.isA (a, b, c, d) := ⟨_, rfl⟩
  rw [← hP]
  have z1 : ((d : Int) == 0) = P := by
    rw [hP]
    show ((d : Int) == 0) = (d == 0)
    cases hb : (d == 0) with
    | true => rw [beq_iff_eq] at hb ⊢; omega
    | false => rw [beq_eq_false_iff_ne] at hb ⊢; omega
  clear hP
  go_enter Try.func61, Try.ntmps61
  go_wp2_with fail
  go_ret
  exact ⟨rfl, HB.out⟩

set_option maxHeartbeats 1000000 in
theorem kused_any : PredC 64 (fun k => !Sk.isL k) := by
  intro a b c d w
  obtain ⟨W, hW⟩ : ∃ W, w.alloc (.cells #[.int .i64 (a : Int), .int .i64 (b : Int), .int .i64 (c : Int), .int .i64 (d : Int)] 78) = W := ⟨_, rfl⟩
  obtain ⟨g, hg⟩ : ∃ g, w.heap.size = g := ⟨_, rfl⟩
  have bx : Blk W g 78 #[.int .i64 (a : Int), .int .i64 (b : Int), .int .i64 (c : Int), .int .i64 (d : Int)] := by rw [← hW, ← hg]; exact Blk.new _ _ _
  have x2 : W.cell? ⟨g, 2, none⟩ = some (.int .i64 (c : Int)) := bx.cell 2
  have x3 : W.cell? ⟨g, 3, none⟩ = some (.int .i64 (d : Int)) := bx.cell 3
  have HB := Lib.hid (show Below g w W by rw [← hW, ← hg]; exact (Below.refl _ _).alloc (Nat.le_refl _) _)
  rw [hg]
  clear bx
  obtain ⟨P, hP⟩ : ∃ P, P = (fun k => !Sk.isL k) (a, b, c, d) := ⟨_, rfl⟩
  rw [← hP]
  have z1 : decide ((0 : Int) < (c : Int)) = P := by
    rw [hP]
    show decide ((0 : Int) < (c : Int)) = !(c == 0)
    cases hb : (c == 0) with
    | true => rw [beq_iff_eq] at hb; subst hb; rfl
    | false => rw [beq_eq_false_iff_ne] at hb; simp; omega
  have z1' : decide (0 < c) = P := by
    rw [← z1]
    by_cases h : 0 < c
    · rw [decide_eq_true h, decide_eq_true (by omega)]
    · rw [decide_eq_false h, decide_eq_false (by omega)]
  clear hP
  go_enter Try.func64, Try.ntmps64
  go_wp2_with fail
  go_ret
  exact ⟨rfl, HB.out⟩

set_option maxHeartbeats 1000000 in
theorem isnan_any (a : Int) (w : World) : Calls Try.prog 77 #[.int .i64 a] w fun e w' => e = .returned (.bool false) ∧ w = w' := by
  have z1 : (a != a) = false := by simp
  have z2 : (a == a) = true := by simp
  go_enter Try.func77, Try.ntmps77
  go_wp2_with fail
  go_ret
  exact ⟨rfl, rfl⟩
def cmpI (a b : Int) : Int := if a < b then -1 else if b < a then 1 else 0
set_option maxHeartbeats 2000000 in
theorem compare_any (a b : Int) (w : World) : Calls Try.prog 73 #[.int .i64 a, .int .i64 b] w fun e w' => e = .returned (.int .i64 (cmpI a b)) ∧ w = w' := by
  have N1 := isnan_any a w
  have N2 := isnan_any b w
  by_cases h1 : a < b
  · have z1 : decide (a < b) = true := by rw [decide_eq_true_eq]; exact h1
    have E : cmpI a b = -1 := by unfold cmpI; rw [if_pos h1]
    rw [E]
    clear h1 E
    go_enter Try.func73, Try.ntmps73
    go_wp2_with (first | (refine N1.mono ?_; rintro e w' ⟨rfl, rfl⟩) | (refine N2.mono ?_; rintro e w' ⟨rfl, rfl⟩))
    go_ret
    exact ⟨rfl, rfl⟩
  have z1 : decide (a < b) = false := by rw [decide_eq_false_iff_not]; exact h1
  by_cases h2 : b < a
  · have z2 : decide (b < a) = true := by rw [decide_eq_true_eq]; exact h2
    have E : cmpI a b = 1 := by unfold cmpI; rw [if_neg h1, if_pos h2]
    rw [E]
    clear h1 h2 E
    go_enter Try.func73, Try.ntmps73
    go_wp2_with (first | (refine N1.mono ?_; rintro e w' ⟨rfl, rfl⟩) | (refine N2.mono ?_; rintro e w' ⟨rfl, rfl⟩))
    go_ret
    exact ⟨rfl, rfl⟩
  have z2 : decide (b < a) = false := by rw [decide_eq_false_iff_not]; exact h2
  have E : cmpI a b = 0 := by unfold cmpI; rw [if_neg h1, if_neg h2]
  rw [E]
  clear h1 h2 E
  go_enter Try.func73, Try.ntmps73
  go_wp2_with (first | (refine N1.mono ?_; rintro e w' ⟨rfl, rfl⟩) | (refine N2.mono ?_; rintro e w' ⟨rfl, rfl⟩))
  go_ret
  exact ⟨rfl, rfl⟩
/-- The program's comparison of a run with a block. -/
theorem find1_any (a b c d : Nat) (t : Int) (w : World) : Calls Try.prog 72 #[.agg #[.int .i64 (a : Int), .int .i64 (b : Int), .int .i64 (c : Int), .int .i64 (d : Int)], .int .i64 t] w fun e w' => e = .returned (.int .i64 (cmpI (a : Int) t)) ∧ Below w.heap.size w w' := by
  obtain ⟨W, hW⟩ : ∃ W, w.alloc (.cells #[.int .i64 (a : Int), .int .i64 (b : Int), .int .i64 (c : Int), .int .i64 (d : Int)] 78) = W := ⟨_, rfl⟩
  obtain ⟨g, hg⟩ : ∃ g, w.heap.size = g := ⟨_, rfl⟩
  have bx : Blk W g 78 #[.int .i64 (a : Int), .int .i64 (b : Int), .int .i64 (c : Int), .int .i64 (d : Int)] := by rw [← hW, ← hg]; exact Blk.new _ _ _
  have x0 : W.cell? ⟨g, 0, none⟩ = some (.int .i64 (a : Int)) := bx.cell 0
  have HB := Lib.hid (show Below g w W by rw [← hW, ← hg]; exact (Below.refl _ _).alloc (Nat.le_refl _) _)
  have N1 := Lib.hid (compare_any (a : Int) t W)
  rw [hg]
  clear bx
  go_enter Try.func72, Try.ntmps72
  go_wp2_with (refine N1.out.mono ?_; rintro e w' ⟨rfl, h2⟩; subst h2)
  go_ret
  exact ⟨rfl, HB.out⟩
end Go.Proofs.Ytfiafgmlbejboaa
