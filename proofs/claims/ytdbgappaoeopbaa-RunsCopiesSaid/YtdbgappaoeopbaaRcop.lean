/- RunsCopies under the contracts. -/
import Derived.Test.YtdbgappaoeopbaaRunm
import Derived.Test.YtdbgappaoeopbaaRply
import Derived.Test.YtdbgappaoeopbaaRn2
import Derived.Deep.RegionHeldLaw
namespace Go.Proofs.Ytdbgappaoeopbaa
open Go.RowKit

namespace Rn
theorem mark_one {F : List Bool} {k : Nat} (hk : k < F.length) : mark F (k : Int) 1 = (F.getD k false, F.set k false) := by
  have ha : all F (k : Int) 1 true = F.getD k false := by
    cases hb : F.getD k false with
    | true =>
      rw [all_iff]
      refine ⟨by omega, by omega, by omega, by omega, fun j hj => ?_⟩
      rw [show j = 0 by simpa using hj]
      exact hb
    | false =>
      rw [Bool.eq_false_iff, Ne, all_iff]
      rintro ⟨_, _, _, _, h⟩
      have := h 0 (by decide)
      rw [Int.toNat_natCast, Nat.add_zero, hb] at this
      cases this
  unfold mark change
  rw [show (!false) = true from rfl, ha, Int.toNat_natCast, show (1 : Int).toNat = 1 from rfl]
  cases hb : F.getD k false with
  | true => rfl
  | false =>
    have : F.set k false = F := by
      refine ext (by simp) fun j hj => ?_
      rw [getD_set F k false hk]
      split
      · next e => rw [← e, hb]
      · rfl
    rw [this]
    rfl
theorem give_one {F : List Bool} {k : Nat} (hk : k < F.length) : give F (k : Int) 1 = (!F.getD k false, F.set k true) := by
  have ha : all F (k : Int) 1 false = !F.getD k false := by
    cases hb : F.getD k false with
    | false =>
      rw [show (!false) = true from rfl, all_iff]
      refine ⟨by omega, by omega, by omega, by omega, fun j hj => ?_⟩
      rw [show j = 0 by simpa using hj]
      exact hb
    | true =>
      rw [show (!true) = false from rfl, Bool.eq_false_iff, Ne, all_iff]
      rintro ⟨_, _, _, _, h⟩
      have := h 0 (by decide)
      rw [Int.toNat_natCast, Nat.add_zero, hb] at this
      cases this
  unfold give change
  rw [show (!true) = false from rfl, ha, Int.toNat_natCast, show (1 : Int).toNat = 1 from rfl]
  cases hb : F.getD k false with
  | false => rfl
  | true =>
    have : F.set k true = F := by
      refine ext (by simp) fun j hj => ?_
      rw [getD_set F k true hk]
      split
      · next e => rw [← e, hb]
      · rfl
    rw [this]
    rfl
theorem not_set (F : List Bool) (k : Nat) (b : Bool) : (F.set k b).map (!·) = (F.map (!·)).set k (!b) := by rw [List.map_set]
theorem not_at {F : List Bool} {k : Nat} (hk : k < F.length) : (F.map (!·)).getD k false = !F.getD k false := by
  rw [List.getD_eq_getElem?_getD, List.getD_eq_getElem?_getD, List.getElem?_map, List.getElem?_eq_getElem hk]
  rfl
/-- The first k blocks taken. -/
def cut (F : List Bool) (k : Nat) : List Bool := List.replicate k false ++ F.drop k
theorem cut_at {F : List Bool} {k : Nat} (hk : k < F.length) : (cut F k).getD k false = F.getD k false ∧ (cut F k).set k false = cut F (k + 1) ∧ (cut F k).length = F.length := by
  have hl : (List.replicate k false).length = k := List.length_replicate
  have hd : F.drop k = F[k] :: F.drop (k + 1) := List.drop_eq_getElem_cons hk
  unfold cut
  refine ⟨?_, ?_, by rw [List.length_append, hl, List.length_drop]; omega⟩
  · rw [List.getD_eq_getElem?_getD, List.getElem?_append_right (by rw [hl]; exact Nat.le_refl k), hl, Nat.sub_self, hd, List.getD_eq_getElem?_getD, List.getElem?_eq_getElem hk]
    rfl
  · rw [List.set_append_right _ _ (by rw [hl]; exact Nat.le_refl k), hl, Nat.sub_self, hd, List.set_cons_zero, List.replicate_succ', List.append_assoc]
    rfl
theorem cut_zero (F : List Bool) : cut F 0 = F := rfl
theorem cut_full {F : List Bool} {k : Nat} (hk : F.length ≤ k) : cut F k = List.replicate k false := by unfold cut; rw [List.drop_eq_nil_of_le hk, List.append_nil]
theorem none_free (k : Nat) : freeN (List.replicate k false) = 0 ∧ list (List.replicate k false) = [] ∧ greatest (List.replicate k false) = 0 := by
  have h : list (List.replicate k false) = [] := by have := list_taken [] k; rw [List.nil_append] at this; exact this.trans rfl
  refine ⟨?_, h, ?_⟩
  · unfold freeN; rw [List.countP_replicate]; rfl
  · unfold greatest; rw [h]; rfl
theorem cut_back {F : List Bool} {k j : Nat} (h : k ≤ j) : (cut F k).getD j false = F.getD j false := by
  unfold cut
  rw [List.getD_eq_getElem?_getD, List.getD_eq_getElem?_getD, List.getElem?_append_right (by rw [List.length_replicate]; exact h), List.length_replicate, List.getElem?_drop, show k + (j - k) = j by omega]
end Rn

/-- Several maps and several rows of flags of one's own, beside each other. -/
structure Cop (Rep : World → Nat → (Nat → Prop) → List Bool → Prop) (B : Nat) (ms bs : List (Nat × List Bool)) (w0 wr : World) : Prop where
  has : Maps Rep (fun b => b < B ∨ ∃ a ∈ bs, a.1 = b) wr ms
  arr : ∀ a ∈ bs, Blk wr a.1 44 (bls a.2)
  new : ∀ a ∈ bs, B ≤ a.1
  bel : Below B w0 wr
  few : B ≤ wr.heap.size
section
variable {Rep : World → Nat → (Nat → Prop) → List Bool → Prop} {B g gt i k : Nat} {F T : List Bool} {ms bs : List (Nat × List Bool)} {w0 w w' : World}
theorem Cop.blocks (h : Cop Rep B ms bs w0 w) {O : Nat → Prop} (hc : Chg O w w') (hO : ∀ a ∈ bs, ¬ O a.1) : ∀ a ∈ bs, Blk w' a.1 44 (bls a.2) := fun a ha =>
  (h.arr a ha).keep (hc.block a.1 (h.arr a ha).lt (hO a ha))
theorem Cop.below (hC : RunsC Rep) (h : Cop Rep B ms bs w0 w) (hb : Below w.heap.size w w') : Cop Rep B ms bs w0 w' :=
  ⟨h.has.below hC hb, fun a ha => (h.arr a ha).keep (hb.block a.1 (h.arr a ha).lt), h.new, h.bel.trans (hb.mono h.few), Nat.le_trans h.few hb.size⟩
theorem Cop.like (hC : RunsC Rep) (h : Cop Rep B ms bs w0 w) (k : Like w w') : Cop Rep B ms bs w0 w' :=
  h.below hC (Like.below (Below.refl _ _) k)
theorem Cop.op {f : Nat} {args : Array Value} {Q : Ending → Prop} (h : Cop Rep B ms bs w0 w) {ms' : List (Nat × List Bool)}
    (P : Calls Try.prog f args w fun e w' => Q e ∧ Maps Rep (fun b => b < B ∨ ∃ a ∈ bs, a.1 = b) w' ms' ∧ Chg (fun b => ¬ (b < B ∨ ∃ a ∈ bs, a.1 = b)) w w') :
    Calls Try.prog f args w fun e w' => Q e ∧ Cop Rep B ms' bs w0 w' := by
  refine P.mono ?_
  rintro e w' ⟨hq, hm, hc⟩
  refine ⟨hq, hm, h.blocks hc fun a ha hn => hn (.inr ⟨a, ha, rfl⟩), h.new, ?_, Nat.le_trans h.few hc.size⟩
  exact h.bel.trans (hc.below h.few fun b hb => Nat.le_of_not_lt fun e => hb (.inl e))
theorem Cop.mark (hC : RunsC Rep) (h : Cop Rep B ms bs w0 w) (hi : ms[i]? = some (g, F)) (hk : k < F.length) (h8 : F.length ≤ 8192) {W : World} (hl : Like w W) :
    Calls Try.prog 13 #[.pointer (some ⟨g, 0, none⟩), .int .i64 (k : Int), .int .i64 1] W fun e w' => e = .returned (.bool (F.getD k false)) ∧ Cop Rep B (ms.set i (g, F.set k false)) bs w0 w' := by
  have h' := h.like hC hl
  have := h'.op (mark_at hC h'.has hi (k : Int) 1 (by unfold I64; omega) (by unfold I64; omega))
  rw [Rn.mark_one hk] at this
  exact this
theorem Cop.give (hC : RunsC Rep) (h : Cop Rep B ms bs w0 w) (hi : ms[i]? = some (g, F)) (hk : k < F.length) (h8 : F.length ≤ 8192) {W : World} (hl : Like w W) :
    Calls Try.prog 15 #[.pointer (some ⟨g, 0, none⟩), .int .i64 (k : Int), .int .i64 1] W fun e w' => e = .returned (.bool (!F.getD k false)) ∧ Cop Rep B (ms.set i (g, F.set k true)) bs w0 w' := by
  have h' := h.like hC hl
  have := h'.op (give_at hC h'.has hi (k : Int) 1 (by unfold I64; omega) (by unfold I64; omega))
  rw [Rn.give_one hk] at this
  exact this
theorem Cop.cell (h : Cop Rep B ms bs w0 w) {a : Nat × List Bool} (ha : a ∈ bs) (hk : k < a.2.length) : w.cell? ⟨a.1, k, none⟩ = some (.bool (a.2.getD k false)) := by rw [(h.arr a ha).cell, bls_at hk]
/-- One flag of the first row is set. -/
theorem Cop.set (hC : RunsC Rep) (h : Cop Rep B ms ((gt, T) :: bs) w0 w) (hd : ∀ a ∈ bs, a.1 ≠ gt) (k : Nat) (b : Bool) : Cop Rep B ms ((gt, T.set k b) :: bs) w0 (w.setCell ⟨gt, k, none⟩ (.bool b)) := by
  have hn := h.new (gt, T) (by simp)
  have hc : Chg (fun x => x = gt) w (w.setCell ⟨gt, k, none⟩ (.bool b)) := (Chg.refl (fun x => x = gt) w).setCell (p := ⟨gt, k, none⟩) (.inl rfl) _
  have hO : (fun x => x < B ∨ ∃ a ∈ ((gt, T.set k b) :: bs), a.1 = x) = fun x => x < B ∨ ∃ a ∈ ((gt, T) :: bs), a.1 = x := by
    funext x
    simp
  refine ⟨?_, ?_, ?_, h.bel.setCell hn _, Nat.le_trans h.few hc.size⟩
  · rw [hO]
    exact h.has.keep hC (hc.mono fun x hx => .inr ⟨(gt, T), by simp, hx.symm⟩)
  · intro a ha
    rcases List.mem_cons.1 ha with rfl | ha
    · show Blk _ gt _ (bls (T.set k b))
      rw [← bls_set]
      exact (h.arr (gt, T) (by simp)).set_ k _
    · exact (h.arr a (by simp [ha])).far (fun e => hd a ha e.symm) _
  · intro a ha
    rcases List.mem_cons.1 ha with rfl | ha
    · exact hn
    · exact h.new a (by simp [ha])
theorem Cop.copy (hC : RunsC Rep) (h : Cop Rep B ms bs w0 w) (hi : ms[i]? = some (g, F)) :
    Calls Try.prog 18 #[.pointer (some ⟨g, 0, none⟩)] w fun e w' => ∃ g', e = .returned (.pointer (some ⟨g', 0, none⟩)) ∧ Cop Rep B (ms ++ [(g', F)]) bs w0 w' := by
  refine (copy_at hC h.has hi).mono ?_
  rintro e w' ⟨g', rfl, hm, hb⟩
  exact ⟨g', rfl, hm, fun a ha => (h.arr a ha).keep (hb.block a.1 (h.arr a ha).lt), h.new, h.bel.trans (hb.mono h.few), Nat.le_trans h.few hb.size⟩
/-- A second row, new, is laid behind. -/
theorem Cop.more (hC : RunsC Rep) (h : Cop Rep B ms bs w0 w) (hb : Below w.heap.size w w') (hg : w.heap.size ≤ gt) (hg2 : gt < w'.heap.size) (ha : Blk w' gt 44 (bls T)) : Cop Rep B ms (bs ++ [(gt, T)]) w0 w' := by
  refine ⟨?_, ?_, ?_, h.bel.trans (hb.mono h.few), Nat.le_trans h.few hb.size⟩
  · refine h.has.foreign hC hb ?_
    rintro b (hb1 | ⟨a, ha1, rfl⟩)
    · exact ⟨.inl (.inl hb1), Nat.lt_of_lt_of_le hb1 (Nat.le_trans h.few hb.size)⟩
    · rcases List.mem_append.1 ha1 with ha1 | ha1
      · exact ⟨.inl (.inr ⟨a, ha1, rfl⟩), Nat.lt_of_lt_of_le (h.arr a ha1).lt hb.size⟩
      · rw [List.mem_singleton.1 ha1]
        exact ⟨.inr hg, hg2⟩
  · intro a ha1
    rcases List.mem_append.1 ha1 with ha1 | ha1
    · exact (h.arr a ha1).keep (hb.block a.1 (h.arr a ha1).lt)
    · rw [List.mem_singleton.1 ha1]
      exact ha
  · intro a ha1
    rcases List.mem_append.1 ha1 with ha1 | ha1
    · exact h.new a ha1
    · rw [List.mem_singleton.1 ha1]
      exact Nat.le_trans h.few hg
end
section
variable {Rep : World → Nat → (Nat → Prop) → List Bool → Prop} {B g i : Nat} {F : List Bool} {ms bs : List (Nat × List Bool)} {w0 w : World}
theorem Cop.free (hC : RunsC Rep) (h : Cop Rep B ms bs w0 w) (hi : ms[i]? = some (g, F)) :
    Calls Try.prog 19 #[.pointer (some ⟨g, 0, none⟩)] w fun e w' => e = .returned (.int .i64 (Rn.freeN F : Int)) ∧ Cop Rep B ms bs w0 w' :=
  (free_at hC h.has hi).mono fun _ _ ⟨e, _, hb⟩ => ⟨e, h.below hC hb⟩
theorem Cop.great (hC : RunsC Rep) (h : Cop Rep B ms bs w0 w) (hi : ms[i]? = some (g, F)) :
    Calls Try.prog 21 #[.pointer (some ⟨g, 0, none⟩)] w fun e w' => e = .returned (.int .i64 (Rn.greatest F : Int)) ∧ Cop Rep B ms bs w0 w' :=
  (great_at hC h.has hi).mono fun _ _ ⟨e, _, hb⟩ => ⟨e, h.below hC hb⟩
theorem Cop.list (hC : RunsC Rep) (h : Cop Rep B ms bs w0 w) (hi : ms[i]? = some (g, F)) :
    Calls Try.prog 20 #[.pointer (some ⟨g, 0, none⟩)] w fun e w' => ∃ v, e = .returned v ∧ OwnR w' w.heap.size v (Rn.list F) ∧ Cop Rep B ms bs w0 w' :=
  (list_at hC h.has hi).mono fun _ _ ⟨v, e, ho, _, hb⟩ => ⟨v, e, ho, h.below hC hb⟩
end
def z50 : Array Value := Array.replicate 50 (.bool false)
theorem z50_bls : z50 = bls ((List.replicate 50 true).map (!·)) := by kernel_rfl
theorem bls_all (T : List Bool) : (bls T).all (fun x => x.oneCell') = true := by
  rw [Array.all_eq_true]
  intro i hi
  simp [bls]
  rfl
theorem bls_size (T : List Bool) : (bls T).size = T.length := by unfold bls; simp
theorem index_bls {k : Nat} (hk : k < 50) (g : Nat) (w : World) : (Instr.indexAt 44 (.pointer (some ⟨g, 0, none⟩)) (.int .i64 (k : Int))).run Try.prog w = .ok (.pointer (some ⟨g, k, none⟩)) w := by
  have h1 : 0 ≤ (k : Int) ∧ (k : Int) < 50 := by omega
  have := Try.underlying44
  go_simp

structure T50 (t : TypeId) (N : Nat) : Prop where
  ht : t = 44
  hN : N = 50
  agg : ∀ w, (isAgg t).run Try.prog w = .ok true w
  ix : ∀ (k : Nat), k < 50 → ∀ (g : Nat) (w : World), (Instr.indexAt t (.pointer (some ⟨g, 0, none⟩)) (.int .i64 (k : Int))).run Try.prog w = .ok (.pointer (some ⟨g, k, none⟩)) w
  und : ∀ w, (underlying t).run Try.prog w = .ok (.array 50 4) w
  sz : ∀ w, (sizeOf t).run Try.prog w = .ok N w
  zero : ∀ w, (zeroValue t).run Try.prog w = .ok (.agg (bls (List.replicate 50 false))) w
theorem t50 : ∃ t N, T50 t N := ⟨_, _, rfl, rfl, fun w => by kernel_rfl, fun _ hk => index_bls hk, fun w => by kernel_rfl, fun w => by kernel_rfl, fun w => by kernel_rfl⟩
theorem flags_new : (List.replicate 50 true).map (!·) = List.replicate 50 false := by decide

/-- The loops' invariants: marks, gives. -/
def Cp1 (Rep : World → Nat → (Nat → Prop) → List Bool → Prop) (B g gt : Nat) (w0 : World) (v7 : Value) (wr : World) : Prop :=
  ∃ F : List Bool, F.length = 50 ∧ v7 = .int .i64 (Rn.freeN F : Int) ∧ Cop Rep B [(g, F)] [(gt, F.map (!·))] w0 wr
def Cp2 (Rep : World → Nat → (Nat → Prop) → List Bool → Prop) (B g gc gt gw : Nat) (G : List Bool) (w0 wr : World) : Prop :=
  ∃ F : List Bool, F.length = 50 ∧ Cop Rep B [(g, F), (gc, G)] [(gt, F.map (!·)), (gw, G.map (!·))] w0 wr

set_option maxRecDepth 8000 in
set_option maxHeartbeats 16000000 in
theorem copies_any {Rep : World → Nat → (Nat → Prop) → List Bool → Prop} (hC : RunsC Rep) {w : World} {A1 A2 : Option Addr} {c1 c2 : Nat} {l m : List Nat} (s1 : Sl w w.heap.size A1 (byts l)) (s2 : Sl w w.heap.size A2 (byts m)) (hl : ∀ x ∈ l, x < 256) (hm : ∀ x ∈ m, x < 256) :
    Calls Try.prog 6 #[.slice A1 l.length c1, .slice A2 m.length c2] w fun e w' => e = .returned (.bool true) ∧ Below w.heap.size w w' := by
  have AW := Lib.hid (rawake_any hC w)
  have HC := Lib.hid hC
  obtain ⟨B, hB⟩ : ∃ B, B = w.heap.size := ⟨_, rfl⟩
  have HBw := Lib.hid (show B ≤ w.heap.size by omega)
  rw [← hB] at AW s1 s2 ⊢
  have S1 := Lib.hid s1
  have S2 := Lib.hid s2
  have HL := Lib.hid hl
  have HM := Lib.hid hm
  obtain ⟨p, hp⟩ : ∃ p, p = l.length := ⟨_, rfl⟩
  have Hp := Lib.hid hp
  rw [← hp]
  obtain ⟨q, hq⟩ : ∃ q, q = m.length := ⟨_, rfl⟩
  have Hq := Lib.hid hq
  rw [← hq]
  clear hC hB s1 s2 hl hm hp hq
  by_cases h60 : 60 < p ∨ 60 < q
  · by_cases h61 : 60 < p
    · have q1 : decide (60 < (p : Int)) = true := by rw [decide_eq_true_eq]; omega
      have q2 : decide (60 < p) = true := by rw [decide_eq_true_eq]; exact h61
      clear h60 h61
      go_enter Try.func6, Try.ntmps6
      go_wp2_with fail
      refine AW.out.mono ?_
      rintro e w0 ⟨rfl, hb0⟩
      go_wp2_with fail
      go_ret
      exact ⟨rfl, hb0⟩
    · have q1 : decide (60 < (p : Int)) = false := by rw [decide_eq_false_iff_not]; omega
      have q2 : decide (60 < p) = false := by rw [decide_eq_false_iff_not]; exact h61
      have q3 : decide (60 < (q : Int)) = true := by rw [decide_eq_true_eq]; omega
      have q4 : decide (60 < q) = true := by rw [decide_eq_true_eq]; omega
      clear h60 h61
      go_enter Try.func6, Try.ntmps6
      go_wp2_with fail
      refine AW.out.mono ?_
      rintro e w0 ⟨rfl, hb0⟩
      go_wp2_with fail
      go_ret
      exact ⟨rfl, hb0⟩
  have q1 : decide (60 < (p : Int)) = false := by rw [decide_eq_false_iff_not]; omega
  have q2 : decide (60 < p) = false := by rw [decide_eq_false_iff_not]; omega
  have q3 : decide (60 < (q : Int)) = false := by rw [decide_eq_false_iff_not]; omega
  have q4 : decide (60 < q) = false := by rw [decide_eq_false_iff_not]; omega
  have hp60 : p ≤ 60 := by omega
  have hq60 : q ≤ 60 := by omega
  obtain ⟨t, N, ht, hN, hagg, hix, hund, hsz, hz0⟩ := t50
  obtain ⟨Z, hZ⟩ : ∃ Z, Z = bls (List.replicate 50 false) := ⟨_, rfl⟩
  rw [← hZ] at hz0
  have Hix := Lib.hid hix
  have HN := Lib.hid hN
  have HZ := Lib.hid hZ
  have Ht := Lib.hid ht
  have E1 : Op.alloc 44 = Op.alloc t := by rw [ht]
  have E2 : ∀ a b, Op.store 44 a b = Op.store t a b := by rw [ht]; exact fun _ _ => rfl
  have E3 : ∀ a b, Op.indexAddr 44 a b = Op.indexAddr t a b := by rw [ht]; exact fun _ _ => rfl
  have E4 : ∀ a, Op.load 44 a = Op.load t a := by rw [ht]; exact fun _ => rfl
  clear h60 hix hN hZ ht
  go_enter Try.func6, Try.ntmps6
  simp only [E1, E2, E3, E4]
  clear E1 E2 E3 E4
  go_wp2_with fail
  refine AW.out.mono ?_
  rintro e w0 ⟨rfl, hb0⟩
  have S0 := Lib.hid (Nat.le_trans HBw.out hb0.size)
  have H0 := Lib.hid hb0
  have M0 := Lib.hid (Maps.none (Rep := Rep) (O := fun b => b < B) (w := w0) (fun b hb => Nat.lt_of_lt_of_le hb S0.out))
  have N1 := Lib.hid (new_at HC.out M0.out 50 (by unfold I64; omega))
  clear AW hb0
  go_wp2_with fail
  refine N1.out.mono ?_
  rintro e w1 ⟨g, rfl, m1, hb1⟩
  have C1 := Lib.hid (show Cop Rep B [(g, List.replicate 50 true)] [] w w1 from ⟨by
    have e : (fun b => b < B ∨ ∃ a ∈ ([] : List (Nat × List Bool)), a.1 = b) = fun b => b < B := by funext b; simp
    rw [e]
    exact m1, by simp, by simp, H0.out.trans (hb1.mono S0.out), Nat.le_trans S0.out hb1.size⟩)
  clear m1 hb1 N1 S0 H0 M0
  obtain ⟨gt, hgt⟩ : ∃ gt, w1.heap.size = gt := ⟨_, rfl⟩
  obtain ⟨W2, hW2⟩ : ∃ W2, w1.alloc (.cells Z t) = W2 := ⟨_, rfl⟩
  have C2 := Lib.hid (show Cp1 Rep B g gt w (.int .i64 50) W2 from ⟨List.replicate 50 true, List.length_replicate, rfl, by
    have hal : Below w1.heap.size w1 W2 := by rw [← hW2]; exact (Below.refl _ _).alloc (Nat.le_refl _) _
    have hbk : Blk W2 gt t Z := by rw [← hW2, ← hgt]; exact Blk.new _ _ _
    rw [Ht.out, HZ.out, ← flags_new] at hbk
    exact C1.out.more HC.out hal (Nat.le_of_eq hgt) hbk.lt hbk⟩)
  clear C1
  go_wp2_with fail
  clear hW2 hgt
  go_loopw [7, 8] (fun v7 v8 wr => ∃ i : Nat, v8 = .int .i64 (i : Int) ∧ i ≤ p ∧ Cp1 Rep B g gt w v7 wr) (fun _ v8 _ => p - (intOf v8).toNat)
  case atStart => exact ⟨0, rfl, Nat.zero_le _, C2.out⟩
  case round =>
    obtain ⟨i, rfl, hi, F, hF, rfl, co⟩ := hrel
    have CO := Lib.hid co
    clear C2
    by_cases hip : i < p
    · have z0 : decide ((i : Int) < (p : Int)) = true := by rw [decide_eq_true_eq]; omega
      have z0' : decide (i < p) = true := by rw [decide_eq_true_eq]; exact hip
      obtain ⟨bb, o, rfl, hcx⟩ := sl_cell (S1.out.below co.bel) (k := i) (by rw [← Hp.out]; exact hip)
      have hx := getB_lt HL.out i
      generalize l.getD i 0 = x at *
      obtain ⟨k, hk⟩ : ∃ k, k = x % 50 := ⟨_, rfl⟩
      have hk' : (x : Int) % 50 = (k : Int) := by omega
      have hk50 : k < 50 := by omega
      have ix := Hix.out k hk50 gt
      have cc := co.cell (k := k) (a := (gt, F.map (!·))) (by simp) (by simp; omega)
      rw [Rn.not_at (by omega)] at cc
      have fz : ∀ (ms : List (Nat × List Bool)) (W : World), Cop Rep B ms [(gt, F.map (!·))] w W → W.frozen? ⟨gt, k, none⟩ = false := fun ms W h => (h.arr (gt, F.map (!·)) (by simp)).frozen k
      have Fz := Lib.hid fz
      have hset := Rn.freeN_set (F := F) (i := k) (by omega) false
      have N2 := Lib.hid (fun W (hl : Like wr W) => co.mark HC.out (k := k) (i := 0) (g := g) (F := F) rfl (by omega) (by omega) hl)
      have Kp := Lib.hid (fun (ms : List (Nat × List Bool)) (W : World) (h : Cop Rep B ms [(gt, F.map (!·))] w W) => show W.cell? ⟨gt, k, none⟩ = some (.bool (!F.getD k false)) by
        have := h.cell (k := k) (a := (gt, F.map (!·))) (by simp) (by simp; omega)
        rw [Rn.not_at (by omega)] at this
        exact this)
      have Nx := Lib.hid (fun (W : World) (h : Cop Rep B [(g, F.set k false)] [(gt, F.map (!·))] w W) => show Cop Rep B [(g, F.set k false)] [(gt, (F.set k false).map (!·))] w (W.setCell ⟨gt, k, none⟩ (.bool true)) by
        rw [Rn.not_set]; exact h.set HC.out (by simp) k true)
      have HF2 := Lib.hid (show (F.set k false).length = 50 by simp; exact hF)
      have hfl : Rn.freeN F ≤ 50 := by rw [← hF]; exact List.countP_le_length
      have hfl2 : Rn.freeN (F.set k false) ≤ 50 := by rw [← HF2.out]; exact List.countP_le_length
      clear fz co hk hF
      have HS := Lib.hid hset
      clear hset
      obtain ⟨u, hu⟩ : ∃ u, u = Rn.freeN F := ⟨_, rfl⟩
      obtain ⟨u2, hu2⟩ : ∃ u, u = Rn.freeN (F.set k false) := ⟨_, rfl⟩
      have HS2 := Lib.hid (show u2 + (if F.getD k false = true then 1 else 0) = u by rw [hu, hu2]; simpa using HS.out)
      have HU2 := Lib.hid hu2
      rw [← hu] at hfl ⊢
      rw [← hu2] at hfl2
      clear HS hu hu2
      cases hb : F.getD k false with
      | false =>
        rw [hb] at N2 Kp HS2 cc
        rw [show (!false) = true from rfl] at Kp cc
        go_upto_region 14 with fail
        rw [hk']
        clear hx
        go_region_held_law (fun w' => w'.cell? ⟨gt, k, none⟩ = some (.bool true)) (first | exact Kp.out _ _ co | exact cc) (first
          | (go_at_call 13; refine (N2.out _ (by exact ⟨rfl, rfl, rfl, rfl⟩)).mono ?_; rintro e w3 ⟨rfl, co⟩))
        all_goals
          have cc := Kp.out _ _ co
          have fz := Fz.out _ _ co
          have CO3 := Lib.hid (Nx.out _ co)
          have hu2 : u2 = u := by have := HS2.out; simp at this; omega
          go_wp2_with fail
          go_roundw
          case rel => exact ⟨i + 1, by go_num, by omega, F.set k false, HF2.out, by rw [← HU2.out]; first | go_num | (congr 1; omega), CO3.out⟩
          case measure => simp [intOf]; omega
      | true =>
        rw [hb] at N2 Kp HS2 cc
        rw [show (!true) = false from rfl] at Kp cc
        go_upto_region 14 with fail
        rw [hk']
        clear hx
        go_region_held_law (fun w' => w'.cell? ⟨gt, k, none⟩ = some (.bool false)) (first | exact Kp.out _ _ co | exact cc) (first
          | (go_at_call 13; refine (N2.out _ (by exact ⟨rfl, rfl, rfl, rfl⟩)).mono ?_; rintro e w3 ⟨rfl, co⟩))
        all_goals
          have cc := Kp.out _ _ co
          have fz := Fz.out _ _ co
          have CO3 := Lib.hid (Nx.out _ co)
          have hu2 : u2 + 1 = u := by have := HS2.out; simp at this; omega
          go_wp2_with fail
          go_roundw
          case rel => exact ⟨i + 1, by go_num, by omega, F.set k false, HF2.out, by rw [← HU2.out]; first | go_num | (congr 1; omega), CO3.out⟩
          case measure => simp [intOf]; omega
    · have hip' : i = p := by omega
      subst hip'
      have z0 : decide ((i : Int) < (i : Int)) = false := by simp
      have z0' : decide (i < i) = false := by simp
      have hfl : Rn.freeN F ≤ 50 := by rw [← hF]; exact List.countP_le_length
      have N2 := Lib.hid (co.copy HC.out (i := 0) (g := g) (F := F) rfl)
      have HF := Lib.hid hF
      generalize Rn.freeN F = u at *
      clear co CO hF
      go_wp2_with fail
      refine N2.out.mono ?_
      rintro e w3 ⟨gc, rfl, co3⟩
      have B3 := co3.arr (gt, F.map (!·)) (by simp)
      obtain ⟨G, hG⟩ : ∃ G, G = F := ⟨_, rfl⟩
      have HG := Lib.hid (show G.length = 50 by rw [hG]; exact HF.out)
      obtain ⟨T, hT⟩ : ∃ T, T = bls (F.map (!·)) := ⟨_, rfl⟩
      have hTs : T.size = N := by rw [hT, bls_size, List.length_map, HF.out, HN.out]
      have hT1 : T.all (fun x => x.oneCell') = true := by rw [hT]; exact bls_all _
      have hZs : Z.size = 50 := by rw [HZ.out, bls_size, List.length_replicate]
      rw [show bls (gt, F.map (!·)).2 = T from hT.symm, show ((gt, F.map (!·)) : Nat × List Bool).1 = gt from rfl, ← Ht.out] at B3
      have ld := load_blk (N := N) hTs B3
      have hi50 : (Try.prog.info? t).map (·.size) = some 50 := by rw [Ht.out]; kernel_rfl
      have st := run_storeCells_new w3 t Z T (by rw [hi50, hTs, HN.out]) (by rw [hZs, hTs, HN.out]) hT1
      obtain ⟨gw, hgw⟩ : ∃ gw, w3.heap.size = gw := ⟨_, rfl⟩
      obtain ⟨W4, hW4⟩ : ∃ W4, w3.alloc (.cells T t) = W4 := ⟨_, rfl⟩
      rw [hW4, hgw] at st
      have hne : gt ≠ gw := by
        have := B3.lt
        omega
      have hal : Below w3.heap.size w3 W4 := by rw [← hW4]; exact (Below.refl _ _).alloc (Nat.le_refl _) _
      have b4 : Blk W4 gw t T := by rw [← hW4, ← hgw]; exact Blk.new _ _ _
      have hG' : ∀ x, x = F → x.map (!·) = F.map (!·) := fun x h => by rw [h]
      have C4 := Lib.hid (show Cp2 Rep B g gc gt gw G w W4 from ⟨F, HF.out, by
        have hbk := b4
        rw [Ht.out, hT, ← hG' G hG] at hbk
        rw [← hG] at co3 ⊢
        exact co3.more HC.out hal (Nat.le_of_eq hgw) hbk.lt hbk⟩)
      clear N2 co3 B3 hT1 hi50 hal b4 hG' HF hG hT hZs
      go_wp2_with fail
      clear ld st hW4 hgw hTs
      go_loopw [12] (fun v12 wr => ∃ j : Nat, v12 = .int .i64 (j : Int) ∧ j ≤ q ∧ Cp2 Rep B g gc gt gw G w wr) (fun v12 _ => q - (intOf v12).toNat)
      case atStart => exact ⟨0, rfl, Nat.zero_le _, C4.out⟩
      case round =>
        obtain ⟨j, rfl, hj, F, hF, co⟩ := hrel
        have CO := Lib.hid co
        clear C4
        by_cases hjq : j < q
        · have z1 : decide ((j : Int) < (q : Int)) = true := by rw [decide_eq_true_eq]; omega
          have z1' : decide (j < q) = true := by rw [decide_eq_true_eq]; exact hjq
          obtain ⟨bb, o, rfl, hcx⟩ := sl_cell (S2.out.below co.bel) (k := j) (by rw [← Hq.out]; exact hjq)
          have hx := getB_lt HM.out j
          generalize m.getD j 0 = x at *
          obtain ⟨k, hk⟩ : ∃ k, k = x % 50 := ⟨_, rfl⟩
          have hk' : (x : Int) % 50 = (k : Int) := by omega
          have hk50 : k < 50 := by omega
          have ix := Hix.out k hk50 gt
          have cc := co.cell (k := k) (a := (gt, F.map (!·))) (by simp) (by simp; omega)
          rw [Rn.not_at (by omega)] at cc
          have fz : ∀ (ms : List (Nat × List Bool)) (W : World), Cop Rep B ms [(gt, F.map (!·)), (gw, G.map (!·))] w W → W.frozen? ⟨gt, k, none⟩ = false := fun ms W h => (h.arr (gt, F.map (!·)) (by simp)).frozen k
          have Fz := Lib.hid fz
          have N2 := Lib.hid (fun W (hl : Like wr W) => co.give HC.out (k := k) (i := 0) (g := g) (F := F) rfl (by omega) (by omega) hl)
          have Kp := Lib.hid (fun (ms : List (Nat × List Bool)) (W : World) (h : Cop Rep B ms [(gt, F.map (!·)), (gw, G.map (!·))] w W) => show W.cell? ⟨gt, k, none⟩ = some (.bool (!F.getD k false)) by
            have := h.cell (k := k) (a := (gt, F.map (!·))) (by simp) (by simp; omega)
            rw [Rn.not_at (by omega)] at this
            exact this)
          have Nx := Lib.hid (fun (W : World) (h : Cop Rep B [(g, F.set k true), (gc, G)] [(gt, F.map (!·)), (gw, G.map (!·))] w W) => show Cop Rep B [(g, F.set k true), (gc, G)] [(gt, (F.set k true).map (!·)), (gw, G.map (!·))] w (W.setCell ⟨gt, k, none⟩ (.bool false)) by
            rw [Rn.not_set]; exact h.set HC.out (by intro a ha; rw [List.mem_singleton.1 ha]; exact hne.symm) k false)
          have HF2 := Lib.hid (show (F.set k true).length = 50 by simp; exact hF)
          clear fz co hk hF
          cases hb : F.getD k false with
          | false =>
            rw [hb] at N2 Kp cc
            rw [show (!false) = true from rfl] at N2 Kp cc
            go_upto_region 25 with fail
            rw [hk']
            clear hx
            go_region_held_law (fun w' => w'.cell? ⟨gt, k, none⟩ = some (.bool true)) (first | exact Kp.out _ _ co | exact cc) (first
              | (go_at_call 15; refine (N2.out _ (by exact ⟨rfl, rfl, rfl, rfl⟩)).mono ?_; rintro e w3 ⟨rfl, co⟩))
            all_goals
              have cc := Kp.out _ _ co
              have fz := Fz.out _ _ co
              have CO3 := Lib.hid (Nx.out _ co)
              go_wp2_with fail
              go_roundw
              case rel => exact ⟨j + 1, by go_num, by omega, F.set k true, HF2.out, CO3.out⟩
              case measure => simp [intOf]; omega
          | true =>
            rw [hb] at N2 Kp cc
            rw [show (!true) = false from rfl] at N2 Kp cc
            go_upto_region 25 with fail
            rw [hk']
            clear hx
            go_region_held_law (fun w' => w'.cell? ⟨gt, k, none⟩ = some (.bool false)) (first | exact Kp.out _ _ co | exact cc) (first
              | (go_at_call 15; refine (N2.out _ (by exact ⟨rfl, rfl, rfl, rfl⟩)).mono ?_; rintro e w3 ⟨rfl, co⟩))
            all_goals
              have cc := Kp.out _ _ co
              have fz := Fz.out _ _ co
              have CO3 := Lib.hid (Nx.out _ co)
              go_wp2_with fail
              go_roundw
              case rel => exact ⟨j + 1, by go_num, by omega, F.set k true, HF2.out, CO3.out⟩
              case measure => simp [intOf]; omega
        · have hjq' : j = q := by omega
          subst hjq'
          have z1 : decide ((j : Int) < (j : Int)) = false := by simp
          have z1' : decide (j < j) = false := by simp
          have C5 := Lib.hid (show Cop Rep B [(g, Rn.cut F 0), (gc, Rn.cut G 0)] [(gt, F.map (!·)), (gw, G.map (!·))] w wr from co)
          have HF := Lib.hid hF
          clear co CO hF
          go_wp2_with fail
          go_loopw [14] (fun v14 wr => ∃ k : Nat, v14 = .int .i64 (k : Int) ∧ k ≤ 50 ∧ Cop Rep B [(g, Rn.cut F k), (gc, Rn.cut G k)] [(gt, F.map (!·)), (gw, G.map (!·))] w wr) (fun v14 _ => 50 - (intOf v14).toNat)
          case atStart => exact ⟨0, rfl, Nat.zero_le _, C5.out⟩
          case round =>
            obtain ⟨k, rfl, hk, co⟩ := hrel
            clear C5
            by_cases hk50 : k < 50
            · have z2 : decide ((k : Int) < 50) = true := by rw [decide_eq_true_eq]; omega
              have z2' : decide (k < 50) = true := by rw [decide_eq_true_eq]; exact hk50
              have ix := Hix.out k hk50 gt
              have ix2 := Hix.out k hk50 gw
              obtain ⟨f1, f2, f3⟩ := Rn.cut_at (F := F) (k := k) (by rw [HF.out]; exact hk50)
              obtain ⟨e1, e2, e3⟩ := Rn.cut_at (F := G) (k := k) (by rw [HG.out]; exact hk50)
              have N2 := co.mark HC.out (k := k) (i := 1) (g := gc) (F := Rn.cut G k) rfl (by rw [e3, HG.out]; exact hk50) (by rw [e3, HG.out]; decide) (show Like wr wr.drew from ⟨rfl, rfl, rfl, rfl⟩)
              rw [e1, e2] at N2
              simp only [List.set_cons_succ, List.set_cons_zero] at N2
              have N2 := Lib.hid N2
              have N3 := Lib.hid (fun (W : World) (h : Cop Rep B [(g, Rn.cut F k), (gc, Rn.cut G (k + 1))] [(gt, F.map (!·)), (gw, G.map (!·))] w W) => show Calls Try.prog 13 #[.pointer (some ⟨g, 0, none⟩), .int .i64 (k : Int), .int .i64 1] W fun e w' => e = .returned (.bool (F.getD k false)) ∧ Cop Rep B [(g, Rn.cut F (k + 1)), (gc, Rn.cut G (k + 1))] [(gt, F.map (!·)), (gw, G.map (!·))] w w' by
                have := h.mark HC.out (k := k) (i := 0) (g := g) (F := Rn.cut F k) rfl (by rw [f3, HF.out]; exact hk50) (by rw [f3, HF.out]; decide) (show Like W W from ⟨rfl, rfl, rfl, rfl⟩)
                rw [f1, f2] at this
                simp only [List.set_cons_zero] at this
                exact this)
              have Kp := Lib.hid (fun (ms : List (Nat × List Bool)) (W : World) (h : Cop Rep B ms [(gt, F.map (!·)), (gw, G.map (!·))] w W) => show W.cell? ⟨gt, k, none⟩ = some (.bool (!F.getD k false)) ∧ W.cell? ⟨gw, k, none⟩ = some (.bool (!G.getD k false)) by
                have h1 := h.cell (k := k) (a := (gt, F.map (!·))) (by simp) (by simp; have := HF.out; omega)
                have h2 := h.cell (k := k) (a := (gw, G.map (!·))) (by simp) (by simp; have := HG.out; omega)
                rw [Rn.not_at (by have := HF.out; omega)] at h1
                rw [Rn.not_at (by have := HG.out; omega)] at h2
                exact ⟨h1, h2⟩)
              have cc := Kp.out _ _ co
              clear f1 f2 f3 e1 e2 e3 co
              cases hb : F.getD k false with
              | false =>
                rw [hb] at N3 Kp cc
                cases hg : G.getD k false with
                | false =>
                  rw [hg] at N2 Kp cc
                  rw [show (!false) = true from rfl] at Kp cc
                  try rw [show (!false) = true from rfl] at Kp cc
                  obtain ⟨cc1, cc2⟩ := cc
                  go_wp2_with fail
                  go_region_held_law (fun w' => w'.cell? ⟨gt, k, none⟩ = some (.bool true) ∧ w'.cell? ⟨gw, k, none⟩ = some (.bool true)) (first | exact Kp.out _ _ co | exact ⟨cc1, cc2⟩) (first
                    | (go_at_call 13; (with_reducible refine N2.out.mono ?_); rintro e w3 ⟨rfl, co⟩)
                    | (go_at_call 13; (with_reducible refine (N3.out _ co).mono ?_); rintro e w4 ⟨rfl, co⟩))
                  all_goals
                    have CO3 := Lib.hid co
                    go_wp2_with fail
                    go_roundw
                    case rel => exact ⟨k + 1, by go_num, by omega, CO3.out⟩
                    case measure => simp [intOf]; omega
                | true =>
                  rw [hg] at N2 Kp cc
                  rw [show (!false) = true from rfl] at Kp cc
                  try rw [show (!true) = false from rfl] at Kp cc
                  obtain ⟨cc1, cc2⟩ := cc
                  go_wp2_with fail
                  go_region_held_law (fun w' => w'.cell? ⟨gt, k, none⟩ = some (.bool true) ∧ w'.cell? ⟨gw, k, none⟩ = some (.bool false)) (first | exact Kp.out _ _ co | exact ⟨cc1, cc2⟩) (first
                    | (go_at_call 13; (with_reducible refine N2.out.mono ?_); rintro e w3 ⟨rfl, co⟩)
                    | (go_at_call 13; (with_reducible refine (N3.out _ co).mono ?_); rintro e w4 ⟨rfl, co⟩))
                  all_goals
                    have CO3 := Lib.hid co
                    go_wp2_with fail
                    go_roundw
                    case rel => exact ⟨k + 1, by go_num, by omega, CO3.out⟩
                    case measure => simp [intOf]; omega
              | true =>
                rw [hb] at N3 Kp cc
                cases hg : G.getD k false with
                | false =>
                  rw [hg] at N2 Kp cc
                  rw [show (!true) = false from rfl] at Kp cc
                  try rw [show (!false) = true from rfl] at Kp cc
                  obtain ⟨cc1, cc2⟩ := cc
                  go_wp2_with fail
                  go_region_held_law (fun w' => w'.cell? ⟨gt, k, none⟩ = some (.bool false) ∧ w'.cell? ⟨gw, k, none⟩ = some (.bool true)) (first | exact Kp.out _ _ co | exact ⟨cc1, cc2⟩) (first
                    | (go_at_call 13; (with_reducible refine N2.out.mono ?_); rintro e w3 ⟨rfl, co⟩)
                    | (go_at_call 13; (with_reducible refine (N3.out _ co).mono ?_); rintro e w4 ⟨rfl, co⟩))
                  all_goals
                    have CO3 := Lib.hid co
                    go_wp2_with fail
                    go_roundw
                    case rel => exact ⟨k + 1, by go_num, by omega, CO3.out⟩
                    case measure => simp [intOf]; omega
                | true =>
                  rw [hg] at N2 Kp cc
                  rw [show (!true) = false from rfl] at Kp cc
                  try rw [show (!true) = false from rfl] at Kp cc
                  obtain ⟨cc1, cc2⟩ := cc
                  go_wp2_with fail
                  go_region_held_law (fun w' => w'.cell? ⟨gt, k, none⟩ = some (.bool false) ∧ w'.cell? ⟨gw, k, none⟩ = some (.bool false)) (first | exact Kp.out _ _ co | exact ⟨cc1, cc2⟩) (first
                    | (go_at_call 13; (with_reducible refine N2.out.mono ?_); rintro e w3 ⟨rfl, co⟩)
                    | (go_at_call 13; (with_reducible refine (N3.out _ co).mono ?_); rintro e w4 ⟨rfl, co⟩))
                  all_goals
                    have CO3 := Lib.hid co
                    go_wp2_with fail
                    go_roundw
                    case rel => exact ⟨k + 1, by go_num, by omega, CO3.out⟩
                    case measure => simp [intOf]; omega
            · have hk' : k = 50 := by omega
              subst hk'
              have z2 : decide (((50 : Nat) : Int) < 50) = false := by decide
              rw [Rn.cut_full (by rw [HF.out]; exact Nat.le_refl _), Rn.cut_full (by rw [HG.out]; exact Nat.le_refl _)] at co
              obtain ⟨n1, n2, n3⟩ := Rn.none_free 50
              obtain ⟨E, hE⟩ : ∃ E, E = List.replicate 50 false := ⟨_, rfl⟩
              rw [← hE] at co n1 n2 n3
              have M1 := Lib.hid n1
              have M2 := Lib.hid n2
              have M3 := Lib.hid n3
              have N := co.free HC.out (i := 1) (g := gc) (F := E) rfl
              rw [n1] at N
              have N2 := Lib.hid N
              have zu : decide ((0 : Int) ≤ (u : Int)) = true := by rw [decide_eq_true_eq]; omega
              clear n1 n2 n3 hE co hk N
              go_wp2_with fail
              refine N2.out.mono ?_
              rintro e w5 ⟨rfl, co5⟩
              have N := co5.free HC.out (i := 0) (g := g) (F := E) rfl
              rw [M1.out] at N
              have N3 := Lib.hid N
              clear N2 co5 N
              go_wp2_with fail
              refine N3.out.mono ?_
              rintro e w6 ⟨rfl, co6⟩
              have N := co6.list HC.out (i := 1) (g := gc) (F := E) rfl
              rw [M2.out] at N
              have N4 := Lib.hid N
              clear N3 co6 N
              go_wp2_with fail
              refine N4.out.mono ?_
              rintro e w7 ⟨v, rfl, ow, co7⟩
              obtain ⟨A7, c7, rfl⟩ := ownR_slice ow
              have N := co7.great HC.out (i := 1) (g := gc) (F := E) rfl
              rw [M3.out] at N
              have N5 := Lib.hid N
              clear N4 co7 ow N
              go_wp2_with fail
              refine N5.out.mono ?_
              rintro e w8 ⟨rfl, co8⟩
              have Fin := Lib.hid co8.bel
              clear co8 N5
              go_wp2_with fail
              go_ret
              exact ⟨rfl, Fin.out⟩
end Go.Proofs.Ytdbgappaoeopbaa
