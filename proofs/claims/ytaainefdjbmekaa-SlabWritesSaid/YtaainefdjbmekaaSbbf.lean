/- The program's map of free blocks: slices.Clone, New, List, Copy, Free, Greatest. -/
import Derived.Test.YtaainefdjbmekaaSbba
import Derived.Test.YtaainefdjbmekaaSbbe
import Derived.Lib.SliceRun
import Derived.Deep.RegionHeldLaw
namespace Go.Proofs.Ytaainefdjbmekaa
open Go.RowKit
theorem repP_nil {w : World} {g : Nat} (h : Blk w g 80 #[.int .i64 0, .slice none 0 0]) : RepP w g (fun b => b = g) [] :=
  ⟨.slice none 0 0, h, World.ownsRow_nil _ _ _ _, Nat.zero_le _, fun b => ⟨fun h => .inl h, fun h => h.elim id (fun h => by cases h)⟩, fun h => absurd rfl h⟩
set_option maxHeartbeats 2000000 in
theorem new_any (n : Int) (w : World) (hn : I64 n) : Calls Try.prog 24 #[.int .i64 n] w fun e w' => ∃ g X, e = .returned (.pointer (some ⟨g, 0, none⟩)) ∧ RepP w' g X (Rn.new n) ∧ (∀ b, X b → w.heap.size ≤ b) ∧ Below w.heap.size w w' := by
  obtain ⟨b, hb⟩ : ∃ b, w.heap.size = b := ⟨_, rfl⟩
  rw [hb]
  by_cases h0 : n < 1 ∨ 8192 < n
  · have hR : Rn.new n = [] := by
      unfold Rn.new
      by_cases h1 : n < 0 ∨ 8192 < n
      · rw [if_pos h1]
      · rw [if_neg h1, show n.toNat = 0 by omega]; rfl
    rw [hR]
    obtain ⟨W, hW⟩ : ∃ W, w.alloc (.cells #[.int .i64 0, .slice none 0 0] 80) = W := ⟨_, rfl⟩
    have HB := Lib.hid (show Below b w W by rw [← hW, ← hb]; exact (Below.refl _ _).alloc (Nat.le_refl _) _)
    have K := Lib.hid (show RepP W b (fun x => x = b) [] from repP_nil (by rw [← hW, ← hb]; exact Blk.new _ _ _))
    have Fin := Lib.hid (show ∃ g X, Ending.returned (.pointer (some ⟨b, 0, none⟩)) = Ending.returned (.pointer (some ⟨g, 0, none⟩)) ∧ RepP W g X [] ∧ (∀ x, X x → b ≤ x) ∧ Below b w W from ⟨b, _, rfl, K.out, fun x hx => by rw [hx]; exact Nat.le_refl _, HB.out⟩)
    rcases h0 with h1 | h1
    · have q1 : decide (n < 1) = true := by rw [decide_eq_true_eq]; exact h1
      clear hR h1 hn
      go_enter Try.func24, Try.ntmps24
      go_wp2_with fail
      go_ret
      exact Fin.out
    · have q1 : decide (n < 1) = false := by rw [decide_eq_false_iff_not]; omega
      have q2 : decide (8192 < n) = true := by rw [decide_eq_true_eq]; exact h1
      clear hR h1 hn
      go_enter Try.func24, Try.ntmps24
      go_wp2_with fail
      go_ret
      exact Fin.out
  · obtain ⟨k, rfl⟩ : ∃ k : Nat, n = (k : Int) := ⟨n.toNat, by omega⟩
    have hk : 1 ≤ k ∧ k ≤ 8192 := by omega
    have hR : Rn.new (k : Int) = List.replicate k true := by
      unfold Rn.new
      rw [if_neg (by omega), Int.toNat_natCast]
    have hL : Rn.list (List.replicate k true) = [(0, k)] := by
      obtain ⟨j, rfl⟩ : ∃ j, k = j + 1 := ⟨k - 1, by omega⟩
      exact Rn.list_all j
    rw [hR]
    obtain ⟨b1, hb1⟩ : ∃ b1, b1 = b + 1 := ⟨_, rfl⟩
    obtain ⟨w1, hw1⟩ : ∃ w1, w.alloc (.cells #[.int .i64 0, .int .i64 (k : Int)] 33) = w1 := ⟨_, rfl⟩
    have hs1 : w1.heap.size = b1 := by rw [← hw1, hb1, ← hb]; simp
    obtain ⟨W, hW⟩ : ∃ W, w1.alloc (.cells #[.int .i64 (k : Int), .slice (some ⟨b, 0, none⟩) 1 1] 80) = W := ⟨_, rfl⟩
    have hbw1 : Below b w w1 := by rw [← hw1, ← hb]; exact (Below.refl _ _).alloc (Nat.le_refl _) _
    have hbW : Below b w W := hbw1.trans (by rw [← hW]; exact (Below.refl _ _).alloc (by omega) _)
    have hrow1 : OwnR w1 0 (.slice (some ⟨b, 0, none⟩) 1 1) [(0, k)] := by
      have h := World.ownsRow_lit (base := 0) (e := 33) (size := 2) w #[.int .i64 0, .int .i64 (k : Int)] 1 (Nat.zero_le _) (by unfold maxLen; omega) rfl
      rw [hw1, hb] at h
      exact h
    have hrow : OwnR W 0 (.slice (some ⟨b, 0, none⟩) 1 1) [(0, k)] := by rw [← hW]; exact hrow1.alloc _
    have hblk : Blk W b1 80 #[.int .i64 (k : Int), .slice (some ⟨b, 0, none⟩) 1 1] := by rw [← hW, ← hs1]; exact Blk.new _ _ _
    have Fin := Lib.hid (show ∃ g X, Ending.returned (.pointer (some ⟨b1, 0, none⟩)) = Ending.returned (.pointer (some ⟨g, 0, none⟩)) ∧ RepP W g X (List.replicate k true) ∧ (∀ x, X x → b ≤ x) ∧ Below b w W from
      ⟨b1, fun x => x = b1 ∨ x = b, rfl, ⟨.slice (some ⟨b, 0, none⟩) 1 1, by rw [List.length_replicate]; exact hblk, by rw [hL]; exact hrow, by rw [List.length_replicate]; exact hk.2, fun x => ⟨fun h => h.elim .inl (fun h => .inr (by rw [h]; rfl)), fun h => h.elim .inl (fun h => .inr (by injection h with h; exact h.symm))⟩, fun _ h => by cases h⟩, fun x hx => by omega, hbW⟩)
    have q1 : decide ((k : Int) < 1) = false := by rw [decide_eq_false_iff_not]; omega
    have q1' : decide (k < 1) = false := by rw [decide_eq_false_iff_not]; omega
    have q2 : decide ((8192 : Int) < (k : Int)) = false := by rw [decide_eq_false_iff_not]; omega
    have q2' : decide (8192 < k) = false := by rw [decide_eq_false_iff_not]; omega
    have hk8 := hk.2
    clear hn h0 hk hR hL hbw1 hbW hrow1 hrow hblk hb1
    go_enter Try.func24, Try.ntmps24
    go_wp2_with fail
    go_ret
    exact Fin.out
section
variable {w : World} {g : Nat} {X : Nat → Prop} {F : List Bool}
/-- Free blocks among the first k runs. -/
theorem sum_next (l : List (Nat × Nat)) {k : Nat} (h : k < l.length) : ((l.take (k + 1)).map (·.2)).sum = ((l.take k).map (·.2)).sum + (l.getD k (0, 0)).2 := by
  rw [List.take_add_one, List.getElem?_eq_getElem h, List.map_append, List.sum_append, List.getD_eq_getElem?_getD, List.getElem?_eq_getElem h]
  simp
theorem sum_few (F : List Bool) (k : Nat) : (((Rn.list F).take k).map (·.2)).sum ≤ F.length := by
  have h1 : ((Rn.list F).map (·.2)).sum ≤ F.length := by rw [Rn.sum_list]; exact List.countP_le_length
  have h2 : (((Rn.list F).take k).map (·.2)).sum + (((Rn.list F).drop k).map (·.2)).sum = ((Rn.list F).map (·.2)).sum := by
    rw [← List.sum_append, ← List.map_append, List.take_append_drop]
  omega
set_option maxRecDepth 4000 in
set_option maxHeartbeats 4000000 in
theorem free_any (h : RepP w g X F) : Calls Try.prog 9 #[.pointer (some ⟨g, 0, none⟩)] w fun e w' => e = .returned (.int .i64 (Rn.freeN F : Int)) ∧ Below w.heap.size w w' := by
  obtain ⟨v, hV⟩ := h
  have few := hV.few
  have HV := Lib.hid hV
  have hb := list_b few
  have Hbd := Lib.hid hb
  have hlen := list_len F
  obtain ⟨A, c, rfl⟩ := ownR_slice hV.row
  have c1 : w.cell? ⟨g, 1, none⟩ = some (.slice A (Rn.list F).length c) := hV.blk.cell 1
  have Sf := Lib.hid (sum_few F)
  have f8 : F.length ≤ 8192 := few
  obtain ⟨L, hL⟩ : ∃ L, L = Rn.list F := ⟨_, rfl⟩
  have HL := Lib.hid hL
  obtain ⟨q, hq⟩ : ∃ q, q = L.length := ⟨_, rfl⟩
  have Hq := Lib.hid hq
  rw [← hL] at c1 hlen
  rw [← hq] at c1 hlen
  have hq8 : q ≤ 8192 := by omega
  clear hV few hb hL hq hlen
  go_enter Try.func9, Try.ntmps9
  go_wp2_with fail
  go_loopw [3, 13] (fun s3 s13 wr => ∃ k : Nat, s13 = .int .i64 (k : Int) ∧ k ≤ q ∧ s3 = .int .i64 (((((L.take k).map (·.2)).sum) : Nat) : Int) ∧ Below w.heap.size w wr) (fun _ s13 _ => q - (intOf s13).toNat)
  case atStart => exact ⟨0, rfl, Nat.zero_le _, rfl, Below.refl _ _⟩
  case round =>
    obtain ⟨k, rfl, hk, rfl, hbw⟩ := hrel
    have HB := Lib.hid hbw
    by_cases hkq : k < q
    · have z0 : decide ((k : Int) < (q : Int)) = true := by rw [decide_eq_true_eq]; omega
      have z0' : decide (k < q) = true := by rw [decide_eq_true_eq]; exact hkq
      have hVr : RepV wr g X F (.slice A (Rn.list F).length c) := HV.out.keep fun b hb => hbw.block b (HV.out.lt hb)
      obtain ⟨gl, c', e, -, hgl2, hcell, -⟩ := ownR_at hVr.row (by rw [← HL.out, ← Hq.out]; omega)
      injection e with e _ _
      subst e
      obtain ⟨cl1, cl2⟩ := hcell k (by rw [← HL.out, ← Hq.out]; exact hkq)
      rw [← HL.out] at cl1 cl2
      have hbd := Hbd.out (L.getD k (0, 0)) (by rw [← HL.out, List.getD_eq_getElem?_getD, List.getElem?_eq_getElem (by rw [← Hq.out]; exact hkq)]; exact List.getElem_mem _)
      have hS := Sf.out k
      rw [← HL.out] at hS
      have Hn0 := Lib.hid (sum_next L (k := k) (by rw [← Hq.out]; exact hkq))
      generalize ((L.take k).map (·.2)).sum = S at *
      have hS9 : S ≤ 8192 := by omega
      clear hS
      clear hcell hbw hVr
      generalize (L.getD k (0, 0)).1 = x at *
      generalize (L.getD k (0, 0)).2 = y at *
      have hy8 : y ≤ 8192 := by omega
      have hx8 : x ≤ 8192 := by omega
      clear hbd
      obtain ⟨W, hW⟩ : ∃ W, wr.alloc (.cells #[.int .i64 (x : Int), .int .i64 (y : Int)] 33) = W := ⟨_, rfl⟩
      have bx : Blk W wr.heap.size 33 #[.int .i64 (x : Int), .int .i64 (y : Int)] := by rw [← hW]; exact Blk.new _ _ _
      have y1 : W.cell? ⟨wr.heap.size, 1, none⟩ = some (.int .i64 (y : Int)) := bx.cell 1
      have HB2 := Lib.hid (show Below w.heap.size w W by rw [← hW]; exact HB.out.alloc HB.out.size _)
      clear bx
      obtain ⟨t, ht⟩ : ∃ t, t = S + y := ⟨_, rfl⟩
      have s1 : (S : Int) + (y : Int) = (t : Int) := by omega
      have ht9 : t ≤ 100000 := by omega
      have Hn := Lib.hid (show ((L.take (k + 1)).map (·.2)).sum = t by rw [Hn0.out, ht])
      clear ht
      go_wp2_with fail
      go_roundw
      case rel => exact ⟨k + 1, by go_num, by omega, by rw [Hn.out], HB2.out⟩
      case measure => simp [intOf]; omega
    · have hkq' : k = q := by omega
      subst hkq'
      have z0 : decide ((k : Int) < (k : Int)) = false := by simp
      have z0' : decide (k < k) = false := by simp
      have hall : L.take k = L := List.take_of_length_le (by rw [← Hq.out]; exact Nat.le_refl _)
      have Fin := Lib.hid (show ((((L.take k).map (·.2)).sum) : Nat) = Rn.freeN F by rw [hall, HL.out]; exact Rn.sum_list F)
      clear hkq hbw hall
      go_wp2_with fail
      go_ret
      exact ⟨by rw [Fin.out]; rfl, HB.out⟩
end
end Go.Proofs.Ytaainefdjbmekaa
