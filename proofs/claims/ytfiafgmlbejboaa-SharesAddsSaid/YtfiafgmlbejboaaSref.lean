/- The document's Shares: where it lies; at, Uses. -/
import Derived.Test.YtfiafgmlbejboaaShn
import Derived.Test.YtfiafgmlbejboaaRlst
import Derived.BigRegion
import Derived.BigQuiet
namespace Go.Proofs.Ytfiafgmlbejboaa
open Go.RowKit

/-- Uses as cells. -/
def ucs : List Sh.U → List Value
  | [] => []
  | u :: l => .int .i64 (u.1 : Int) :: .int .i64 (u.2.1 : Int) :: .int .i64 (u.2.2 : Int) :: .bool (Sh.isLate u) :: ucs l
theorem ucs_len : ∀ l : List Sh.U, (ucs l).length = l.length * 4
  | [] => rfl
  | u :: l => by rw [ucs]; simp only [List.length_cons]; rw [ucs_len l]; omega
theorem ucs_app : ∀ l m : List Sh.U, ucs (l ++ m) = ucs l ++ ucs m
  | [], _ => rfl
  | u :: l, m => by rw [List.cons_append, ucs, ucs, ucs_app l m]; rfl
theorem ucs_at : ∀ {l : List Sh.U} {k : Nat}, k < l.length → (ucs l)[k * 4]? = some (.int .i64 ((Sh.at_ l k).1 : Int)) ∧ (ucs l)[k * 4 + 1]? = some (.int .i64 ((Sh.at_ l k).2.1 : Int)) ∧ (ucs l)[k * 4 + 2]? = some (.int .i64 ((Sh.at_ l k).2.2 : Int)) ∧ (ucs l)[k * 4 + 3]? = some (.bool (Sh.isLate (Sh.at_ l k)))
  | u :: l, 0, _ => ⟨rfl, rfl, rfl, rfl⟩
  | u :: l, k + 1, h => by
    have := ucs_at (l := l) (k := k) (by simpa using h)
    rw [show (k + 1) * 4 = k * 4 + 1 + 1 + 1 + 1 by omega, ucs]
    simp only [List.getElem?_cons_succ]
    exact this
theorem ucs_take (l : List Sh.U) (k : Nat) : (ucs l).take (k * 4) = ucs (l.take k) := by
  induction l generalizing k with
  | nil => simp [ucs]
  | cons u l ih =>
    cases k with
    | zero => rfl
    | succ k => rw [show (k + 1) * 4 = k * 4 + 1 + 1 + 1 + 1 by omega, ucs, List.take_succ_cons, List.take_succ_cons, List.take_succ_cons, List.take_succ_cons, ih]; rfl
theorem ucs_drop (l : List Sh.U) (k : Nat) : (ucs l).drop (k * 4) = ucs (l.drop k) := by
  induction l generalizing k with
  | nil => simp [ucs]
  | cons u l ih =>
    cases k with
    | zero => rfl
    | succ k => rw [show (k + 1) * 4 = k * 4 + 1 + 1 + 1 + 1 by omega, ucs, List.drop_succ_cons, List.drop_succ_cons, List.drop_succ_cons, List.drop_succ_cons, ih]; rfl
theorem ucs_one (l : List Sh.U) : ∀ u ∈ ucs l, u.oneCell' = true := by
  induction l with
  | nil => simp [ucs]
  | cons a l ih =>
    intro u hu
    rw [ucs] at hu
    simp only [List.mem_cons] at hu
    rcases hu with rfl | rfl | rfl | rfl | hu
    · rfl
    · rfl
    · rfl
    · rfl
    · exact ih u hu
theorem use_parts : ∃ i, Try.prog.info? 80 = some i ∧ i.zero = some (.agg #[.int .i64 0, .int .i64 0, .int .i64 0, .bool false]) ∧ i.size = 4 ∧ i.bytes = 32 := by
  have h : (Try.prog.info? 80).map (fun i => (i.zero, i.size, i.bytes)) = some (some (.agg #[.int .i64 0, .int .i64 0, .int .i64 0, .bool false]), 4, 32) := by kernel_rfl
  obtain ⟨i, hi, hh⟩ := Option.map_eq_some_iff.1 h
  simp only [Prod.mk.injEq] at hh
  exact ⟨i, hi, hh.1, hh.2.1, hh.2.2⟩
/-- A row of uses of one's own. -/
abbrev OwnU (w : World) (B : Nat) (v : Value) (l : List Sh.U) : Prop := w.ownsRow B 80 4 v l.length (ucs l)
theorem ownU_at {w : World} {B : Nat} {v : Value} {l : List Sh.U} (h : OwnU w B v l) (hn : 0 < l.length) : ∃ g c, v = .slice (some ⟨g, 0, none⟩) l.length c ∧ B ≤ g ∧ g < w.heap.size ∧
    ∀ k, k < l.length → w.cell? ⟨g, k * 4, none⟩ = some (.int .i64 ((Sh.at_ l k).1 : Int)) ∧ w.cell? ⟨g, k * 4 + 1, none⟩ = some (.int .i64 ((Sh.at_ l k).2.1 : Int)) ∧ w.cell? ⟨g, k * 4 + 2, none⟩ = some (.int .i64 ((Sh.at_ l k).2.2 : Int)) ∧ w.cell? ⟨g, k * 4 + 3, none⟩ = some (.bool (Sh.isLate (Sh.at_ l k))) := by
  have hlt := h.lt
  rcases h.2 with ⟨h', h0⟩ | ⟨g, cap, cur, h', hg, _⟩
  · omega
  · subst h'
    refine ⟨g, cap, rfl, hg, (hlt g rfl).2, fun k hk => ?_⟩
    obtain ⟨e1, e2, e3, e4⟩ := ucs_at hk
    exact ⟨by rw [h.cellAt (k * 4) (by omega), e1], by rw [h.cellAt (k * 4 + 1) (by omega), e2], by rw [h.cellAt (k * 4 + 2) (by omega), e3], by rw [h.cellAt (k * 4 + 3) (by omega), e4]⟩
theorem ownU_slice {w : World} {B : Nat} {v : Value} {l : List Sh.U} (h : OwnU w B v l) : ∃ A c, v = .slice A l.length c ∧ l.length ≤ c ∧ (A = none → c = 0) := by
  obtain ⟨A, c, rfl⟩ := own_slice h
  exact ⟨A, c, rfl, own_len h, own_none h⟩
theorem ownU_sl {w : World} {B : Nat} {A : Option Addr} {c : Nat} {l : List Sh.U} (h : OwnU w B (.slice A l.length c) l) : Sl w w.heap.size A (ucs l) := by
  have hl : (ucs l).length = l.length * 4 := ucs_len l
  rcases h.2 with ⟨h', h0⟩ | ⟨g, cap, cur, h', hg, hg2, hc1, hc2, hc3, hc4⟩
  · have : ucs l = [] := List.eq_nil_of_length_eq_zero (by omega)
    rw [this]
    exact .inl rfl
  · injection h' with hA _ hc
    subst hA
    subst hc
    refine .inr ⟨g, 0, rfl, (h.lt g rfl).2, fun i hi => ?_⟩
    rw [hl] at hi
    rw [Nat.zero_add, h.cellAt i hi, List.getElem?_eq_getElem]
theorem ownU_keep {w w' : World} {B : Nat} {v : Value} {l : List Sh.U} (h : OwnU w B v l) (hk : ∀ b, v.ownBlock = some b → w'.heap[b]? = w.heap[b]?) : OwnU w' B v l := own_keep h fun b hb _ => hk b hb

/-- Bounds that keep all sums far from overflow. -/
def UOk (l : List Sh.U) : Prop := l.length ≤ 100000 ∧ ∀ u ∈ l, u.1 ≤ 1000000 ∧ u.2.1 ≤ 1000000 ∧ u.2.2 ≤ 1000000000
theorem UOk.at_ {l : List Sh.U} (h : UOk l) (k : Nat) : (Sh.at_ l k).1 ≤ 1000000 ∧ (Sh.at_ l k).2.1 ≤ 1000000 ∧ (Sh.at_ l k).2.2 ≤ 1000000000 := by
  unfold Sh.at_
  rcases Nat.lt_or_ge k l.length with hk | hk
  · rw [List.getD_eq_getElem?_getD, List.getElem?_eq_getElem hk]
    exact h.2 _ (List.getElem_mem hk)
  · rw [List.getD_eq_getElem?_getD, List.getElem?_eq_none hk]
    exact ⟨by decide, by decide, by decide⟩
/-- The document's Shares at block gs, over its map at gm. -/
structure SRef (w : World) (B gs gm gb : Nat) (F : List Bool) (now was : List Sh.U) : Prop where
  sh : ∃ v1 v2, Blk w gs 75 #[.pointer (some ⟨gm, 0, none⟩), v1, v2] ∧ OwnU w B v1 now ∧ OwnU w B v2 was
  map : RRef w gm gb F
  ok : UOk now
  ok2 : UOk was
section
variable {w w' : World} {B gs gm gb : Nat} {F : List Bool} {now was : List Sh.U}
theorem SRef.below (h : SRef w B gs gm gb F now was) (hb : Below w.heap.size w w') : SRef w' B gs gm gb F now was := by
  obtain ⟨v1, v2, h1, h2, h3⟩ := h.sh
  exact ⟨⟨v1, v2, h1.keep (hb.block _ h1.lt), own_keep h2 fun b _ hlt => hb.block b hlt, own_keep h3 fun b _ hlt => hb.block b hlt⟩, h.map.keep (hb.block _ h.map.map.lt) (hb.block _ h.map.blks.lt), h.ok, h.ok2⟩

set_option maxRecDepth 4000 in
set_option maxHeartbeats 4000000 in
theorem sat_any (h : SRef w B gs gm gb F now was) (a : Int) :
    Calls Try.prog 56 #[.pointer (some ⟨gs, 0, none⟩), .int .i64 a] w fun e w' => e = .returned (.int .i64 (Sh.idxV now a)) ∧ w = w' := by
  obtain ⟨v1, v2, hbk, hu1, hu2⟩ := h.sh
  obtain ⟨A, c, rfl, -, -⟩ := ownU_slice hu1
  obtain ⟨q, hq⟩ : ∃ q, q = now.length := ⟨_, rfl⟩
  have hq5 : q ≤ 100000 := by rw [hq]; exact h.ok.1
  have OU := Lib.hid hu1
  have cn : w.cell? ⟨gs, 1, none⟩ = some (.slice A q c) := by rw [hq]; exact hbk.cell 1
  have Hq := Lib.hid hq
  clear hbk hu1 hu2 h hq
  go_enter Try.func56, Try.ntmps56
  go_wp2_with fail
  go_loop [5] (fun v => ∃ i : Nat, v = .int .i64 (i : Int) ∧ i ≤ q ∧ ∀ j, j < i → ((Sh.at_ now j).1 : Int) ≠ a) (fun v => q - (intOf v).toNat)
  case atStart => exact ⟨0, rfl, Nat.zero_le _, fun j hj => absurd hj (Nat.not_lt_zero j)⟩
  case round =>
    obtain ⟨i, rfl, hi, hb⟩ := hrel
    have HB := Lib.hid hb
    clear hb
    by_cases hiq : i < q
    · have z0 : decide ((i : Int) < (q : Int)) = true := by rw [decide_eq_true_eq]; omega
      have z0' : decide (i < q) = true := by rw [decide_eq_true_eq]; exact hiq
      obtain ⟨g, c', hv, -, -, hcell⟩ := ownU_at OU.out (by rw [← Hq.out]; omega)
      injection hv with hA hw1 hw2
      subst hA
      obtain ⟨c1, -⟩ := hcell i (by rw [← Hq.out]; exact hiq)
      clear hw1 hw2 hcell
      by_cases hx : ((Sh.at_ now i).1 : Int) = a
      · have Fin := Lib.hid (show Sh.idxV now a = (i : Int) by unfold Sh.idxV; rw [Sh.idx_here (by rw [← Hq.out]; exact hiq) hx HB.out])
        rw [hx] at c1
        clear hx
        have za : (a == a) = true := by simp
        go_wp2_with fail
        go_ret
        exact ⟨by rw [Fin.out]; rfl, rfl⟩
      · have zx : (((Sh.at_ now i).1 : Int) == a) = false := by rw [beq_eq_false_iff_ne]; exact hx
        have Nx := Lib.hid (show ∀ j, j < i + 1 → ((Sh.at_ now j).1 : Int) ≠ a from fun j hj => by
          rcases Nat.lt_or_ge j i with h | h
          · exact HB.out j h
          · rw [show j = i by omega]; exact hx)
        clear hx
        generalize (Sh.at_ now i).1 = x at *
        go_wp2_with fail
        go_round
        case rel => exact ⟨i + 1, by go_num, by omega, Nx.out⟩
        case measure => simp [intOf]; omega
    · have hiq' : i = q := by omega
      subst hiq'
      have z0 : decide ((i : Int) < (i : Int)) = false := by simp
      have z0' : decide (i < i) = false := by simp
      have Fin := Lib.hid (show Sh.idxV now a = -1 by unfold Sh.idxV; rw [Sh.idx_none (fun j hj => HB.out j (by rw [Hq.out]; exact hj))])
      go_wp2_with fail
      go_ret
      exact ⟨by rw [Fin.out]; rfl, rfl⟩

set_option maxRecDepth 4000 in
set_option maxHeartbeats 4000000 in
theorem suses_any (h : SRef w B gs gm gb F now was) (a : Int) :
    Calls Try.prog 39 #[.pointer (some ⟨gs, 0, none⟩), .int .i64 a] w fun e w' => e = .returned (.int .i64 (Sh.uses now a : Int)) ∧ w = w' := by
  have N1 := Lib.hid (sat_any h a)
  obtain ⟨v1, v2, hbk, hu1, hu2⟩ := h.sh
  obtain ⟨A, c, rfl, -, -⟩ := ownU_slice hu1
  obtain ⟨q, hq⟩ : ∃ q, q = now.length := ⟨_, rfl⟩
  have hq5 : q ≤ 100000 := by rw [hq]; exact h.ok.1
  have cn : w.cell? ⟨gs, 1, none⟩ = some (.slice A q c) := by rw [hq]; exact hbk.cell 1
  cases hx : Sh.idx now a with
  | none =>
    have hV : Sh.idxV now a = -1 := by unfold Sh.idxV; rw [hx]
    have hU : Sh.uses now a = 0 := by unfold Sh.uses; rw [hx]
    rw [hU]
    rw [hV] at N1
    clear hx hV hU hbk hu1 hu2 h hq
    go_enter Try.func39, Try.ntmps39
    go_wp2_with fail
    refine N1.out.mono ?_
    rintro e w' ⟨rfl, rfl⟩
    go_wp2_with fail
    go_ret
    exact ⟨rfl, rfl⟩
  | some k =>
    obtain ⟨hk, -⟩ := Sh.idx_some hx
    have hV : Sh.idxV now a = (k : Int) := by unfold Sh.idxV; rw [hx]
    have hU : Sh.uses now a = (Sh.at_ now k).2.2 := by unfold Sh.uses; rw [hx]
    rw [hU]
    rw [hV] at N1
    obtain ⟨g, c', hv, -, -, hcell⟩ := ownU_at hu1 (by omega)
    injection hv with hA hw1 hw2
    subst hA
    obtain ⟨-, -, c3, -⟩ := hcell k hk
    have hkq : k < q := by omega
    have zk : decide ((k : Int) < 0) = false := by rw [decide_eq_false_iff_not]; omega
    clear hw1 hw2 hcell hx hV hU hbk hu1 hu2 h hq hk
    generalize (Sh.at_ now k).2.2 = x at *
    go_enter Try.func39, Try.ntmps39
    go_wp2_with fail
    refine N1.out.mono ?_
    rintro e w' ⟨rfl, rfl⟩
    go_wp2_with fail
    go_ret
    exact ⟨rfl, rfl⟩
end
end Go.Proofs.Ytfiafgmlbejboaa
