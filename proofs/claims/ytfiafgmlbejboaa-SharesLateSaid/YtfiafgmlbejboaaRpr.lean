/- The program's map of free blocks: where it lies; end, behind, slices.Clone; New, List, Copy, Free, Greatest. -/
import Derived.Test.YtfiafgmlbejboaaRrep
import Derived.Test.YtfiafgmlbejboaaRg
import Derived.Test.YtfiafgmlbejboaaRunc
import Derived.BigQuiet
namespace Go.Proofs.Ytfiafgmlbejboaa
open Go.RowKit

/-- Block g is the program's map over the free blocks F, which lies in the blocks X. -/
structure RepV (w : World) (g : Nat) (X : Nat → Prop) (F : List Bool) (v : Value) : Prop where
  blk : Blk w g 61 #[.int .i64 (F.length : Int), v]
  row : OwnR w 0 v (Rn.list F)
  few : F.length ≤ 8192
  at_ : ∀ b, X b ↔ (b = g ∨ v.ownBlock = some b)
  some_ : F ≠ [] → v.ownBlock ≠ none
def RepP (w : World) (g : Nat) (X : Nat → Prop) (F : List Bool) : Prop := ∃ v, RepV w g X F v
section
variable {w w' : World} {g : Nat} {X : Nat → Prop} {F : List Bool} {v : Value}
theorem RepV.keep (h : RepV w g X F v) (hk : ∀ b, X b → w'.heap[b]? = w.heap[b]?) : RepV w' g X F v :=
  ⟨h.blk.keep (hk g ((h.at_ g).2 (.inl rfl))), own_keep h.row fun b hb _ => hk b ((h.at_ b).2 (.inr hb)), h.few, h.at_, h.some_⟩
theorem RepV.lt (h : RepV w g X F v) {b : Nat} (hb : X b) : b < w.heap.size := by
  rcases (h.at_ b).1 hb with rfl | hb
  · exact h.blk.lt
  · exact (h.row.lt b hb).2
theorem RepV.ne_ (h : RepV w g X F v) {b : Nat} (hb : v.ownBlock = some b) : b ≠ g := by
  rintro rfl
  rcases h.row.2 with ⟨rfl, -⟩ | ⟨g', c', cur, rfl, -, hg, -⟩
  · cases hb
  · injection hb with hb
    have hb : g' = b := hb
    subst hb
    have := h.blk
    unfold Blk at this
    rw [hg] at this
    injection this with this
    injection this with _ ht
    exact absurd ht (by decide)
/-- The slice, if there are blocks. -/
theorem RepV.form (h : RepV w g X F v) (hF : F ≠ []) : ∃ b c, v = .slice (some ⟨b, 0, none⟩) (Rn.list F).length c ∧ b ≠ g ∧ X b ∧ b < w.heap.size := by
  rcases h.row.2 with ⟨rfl, -⟩ | ⟨b, c, cur, rfl, -, hg, -⟩
  · exact absurd rfl (h.some_ hF)
  · exact ⟨b, c, rfl, h.ne_ rfl, (h.at_ b).2 (.inr rfl), (h.row.lt b rfl).2⟩
theorem list_len (F : List Bool) : (Rn.list F).length ≤ F.length := listK_few F F.length
theorem list_nil : Rn.list [] = [] := rfl
/-- Runs have bounds. -/
theorem list_b {F : List Bool} (hf : F.length ≤ 8192) : ∀ r ∈ Rn.list F, 1 ≤ r.2 ∧ r.1 + r.2 ≤ 8192 := fun r hr => by have := Rn.list_end F r hr; omega
end

set_option maxHeartbeats 1000000 in
theorem end_any (w : World) (a n : Nat) (ha : a ≤ 1000000) (hn : n ≤ 1000000) :
    Calls Try.prog 48 #[.agg #[.int .i64 (a : Int), .int .i64 (n : Int)]] w fun e w' => e = .returned (.int .i64 ((a + n : Nat) : Int)) ∧ Below w.heap.size w w' := by
  obtain ⟨W, hW⟩ : ∃ W, w.alloc (.cells #[.int .i64 (a : Int), .int .i64 (n : Int)] 39) = W := ⟨_, rfl⟩
  obtain ⟨b, hb⟩ : ∃ b, w.heap.size = b := ⟨_, rfl⟩
  have bx : Blk W b 39 #[.int .i64 (a : Int), .int .i64 (n : Int)] := by rw [← hW, ← hb]; exact Blk.new _ _ _
  have x0 : W.cell? ⟨b, 0, none⟩ = some (.int .i64 (a : Int)) := bx.cell 0
  have x1 : W.cell? ⟨b, 1, none⟩ = some (.int .i64 (n : Int)) := bx.cell 1
  have HB := Lib.hid (show Below b w W by rw [← hW, ← hb]; exact (Below.refl _ _).alloc (Nat.le_refl _) _)
  obtain ⟨s, hs⟩ : ∃ s, s = a + n := ⟨_, rfl⟩
  have s1 : (a : Int) + (n : Int) = (s : Int) := by omega
  have bs : s ≤ 2000000 := by omega
  rw [← hs, hb]
  clear bx hs
  go_enter Try.func48, Try.ntmps48
  go_wp2_with fail
  go_ret
  exact ⟨rfl, HB.out⟩

set_option maxRecDepth 4000 in
set_option maxHeartbeats 4000000 in
theorem search_any {w : World} {n : Nat} {cp : Array Value} {p : Nat → Bool} (hn : n ≤ 1000000) (eg : ∀ a w, (callFunc 66 (#[a] ++ cp)).run Try.prog w = .ok (.enter 66 (#[a] ++ cp)) w)
    (hf : ∀ m i : Nat, i < n → Calls Try.prog 66 (#[.int .i64 (i : Int)] ++ cp) (w.drewN m) fun e w' => e = .returned (.bool (p i)) ∧ ∃ q, w' = w.drewN q)
    (hmono : ∀ a b, a ≤ b → b < n → p a = true → p b = true) :
    Calls Try.prog 65 #[.int .i64 (n : Int), .func (.func 66) #[] cp] w fun e w' => ∃ k q : Nat, e = .returned (.int .i64 (k : Int)) ∧ w' = w.drewN q ∧ k ≤ n ∧ (∀ t, t < k → p t = false) ∧ ∀ t, k ≤ t → t < n → p t = true := by
  have HF := Lib.hid hf
  have HM := Lib.hid hmono
  clear hf hmono
  go_enter Try.func65, Try.ntmps65
  go_wp2_with fail
  go_loopw [5, 6] (fun s5 s6 wr => ∃ lo hi q : Nat, s5 = .int .i64 (lo : Int) ∧ s6 = .int .i64 (hi : Int) ∧ lo ≤ hi ∧ hi ≤ n ∧ wr = w.drewN q ∧ (∀ t, t < lo → p t = false) ∧ ∀ t, hi ≤ t → t < n → p t = true) (fun s5 s6 _ => (intOf s6).toNat - (intOf s5).toNat)
  case atStart => exact ⟨0, n, 0, rfl, rfl, Nat.zero_le _, Nat.le_refl _, rfl, fun t ht => absurd ht (Nat.not_lt_zero _), fun t h1 h2 => absurd h2 (Nat.not_lt.2 h1)⟩
  case round =>
    obtain ⟨lo, hi, q, rfl, rfl, hlh, hin, hw, i1, i2⟩ := hrel
    have I1 := Lib.hid i1
    have I2 := Lib.hid i2
    have Hw := Lib.hid hw
    clear i1 i2 hw
    by_cases hlt : lo < hi
    · obtain ⟨mid, hm⟩ : ∃ mid : Nat, mid = (lo + hi) / 2 := ⟨_, rfl⟩
      have s1 : ((lo : Int) + (hi : Int)) / 2 = (mid : Int) := by omega
      have hmid : lo ≤ mid ∧ mid < hi := by omega
      have hc := HF.out q mid (by omega)
      rw [← Hw.out] at hc
      have HC := Lib.hid hc
      have d1 : decide ((lo : Int) < (hi : Int)) = true := by rw [decide_eq_true_eq]; omega
      have d1' : decide (lo < hi) = true := by rw [decide_eq_true_eq]; omega
      clear hc
      cases hp : p mid with
      | true =>
        have HP := Lib.hid hp
        rw [hp] at HC
        clear hp hm
        go_wp2_with (go_at_fn 66; refine HC.out.mono ?_; rintro e w2 ⟨rfl, q2, h2⟩)
        have H2 := Lib.hid h2
        clear h2
        go_wp2_with fail
        go_roundw
        case rel => exact ⟨lo, mid, q2, rfl, rfl, by omega, by omega, rfl, I1.out, fun t h1 h2 => HM.out mid t h1 h2 HP.out⟩
        case measure => simp [intOf]; omega
      | false =>
        have HP := Lib.hid hp
        rw [hp] at HC
        clear hp hm
        go_wp2_with (go_at_fn 66; refine HC.out.mono ?_; rintro e w2 ⟨rfl, q2, h2⟩)
        have H2 := Lib.hid h2
        clear h2
        go_wp2_with fail
        go_roundw
        case rel => exact ⟨mid + 1, hi, q2, by go_num, rfl, by omega, by omega, rfl, (fun t ht => by
          cases h : p t with
          | false => rfl
          | true => have := HM.out t mid (by omega) (by omega) h; rw [HP.out] at this; cases this), I2.out⟩
        case measure => simp [intOf]; omega
    · obtain rfl : lo = hi := by omega
      have d1 : decide ((lo : Int) < (lo : Int)) = false := by simp
      have d1' : decide (lo < lo) = false := by simp
      go_wp2_with fail
      go_ret
      exact ⟨lo, q, rfl, Hw.out, hin, I1.out, I2.out⟩

set_option maxHeartbeats 2000000 in
theorem behind1_any {W : World} {br ba g gb c n i s : Nat} {a : Int} (cr : W.cell? ⟨br, 0, none⟩ = some (.pointer (some ⟨g, 0, none⟩))) (ca : W.cell? ⟨ba, 0, none⟩ = some (.int .i64 a)) (c1 : W.cell? ⟨g, 1, none⟩ = some (.slice (some ⟨gb, 0, none⟩) n c))
    (ci : W.cell? ⟨gb, i * 2, none⟩ = some (.int .i64 (s : Int))) (hi : i < n) :
    Calls Try.prog 66 #[.int .i64 (i : Int), .pointer (some ⟨br, 0, none⟩), .pointer (some ⟨ba, 0, none⟩)] W fun e w' => e = .returned (.bool (decide (a < (s : Int)))) ∧ ∃ q, w' = W.drewN q := by
  have hi' : (i : Int) < (n : Int) := by omega
  have mixed : Try.prog.follows .mixedOrders = true := by kernel_rfl
  go_enter Try.func66, Try.ntmps66
  go_wp2_with fail
  go_quiet (fail)
  go_wp2_with fail
  go_ret
  exact ⟨rfl, _, rfl⟩
theorem bh_is {L : List (Nat × Nat)} {a : Int} {k : Nat} (hk : k ≤ L.length) (h1 : ∀ t, t < k → ((L.getD t (0, 0)).1 : Int) ≤ a) (h2 : ∀ t, k ≤ t → t < L.length → a < ((L.getD t (0, 0)).1 : Int)) : Rn.bh L a = k := by
  have e : L = L.take k ++ L.drop k := (List.take_append_drop k L).symm
  have at_ : ∀ t (ht : t < L.length), L.getD t (0, 0) = L[t] := fun t ht => by rw [List.getD_eq_getElem?_getD, List.getElem?_eq_getElem ht]; rfl
  unfold Rn.bh
  rw [e, List.countP_append, List.countP_eq_length.2, List.countP_eq_zero.2, List.length_take, Nat.min_eq_left hk, Nat.add_zero]
  · intro r hr
    obtain ⟨i, hi, rfl⟩ := List.mem_iff_getElem.1 hr
    rw [List.getElem_drop]
    have hi' : k + i < L.length := by simp at hi; omega
    have := h2 (k + i) (by omega) hi'
    rw [at_ _ hi'] at this
    simp; omega
  · intro r hr
    obtain ⟨i, hi, rfl⟩ := List.mem_iff_getElem.1 hr
    rw [List.getElem_take]
    have hi' : i < k := by simp at hi; omega
    have := h1 i hi'
    rw [at_ _ (by omega)] at this
    simpa using this
theorem drewN_drewN' (w : World) (a b : Nat) : (w.drewN a).drewN b = w.drewN (a + b) := World.drewN_drewN w a b

set_option maxRecDepth 4000 in
set_option maxHeartbeats 4000000 in
theorem behind_any {w : World} {g : Nat} {X : Nat → Prop} {F : List Bool} {v : Value} (h : RepV w g X F v) (a : Int) :
    Calls Try.prog 47 #[.pointer (some ⟨g, 0, none⟩), .int .i64 a] w fun e w' => e = .returned (.int .i64 (Rn.bh (Rn.list F) a : Int)) ∧ Below w.heap.size w w' := by
  obtain ⟨b, hb⟩ : ∃ b, w.heap.size = b := ⟨_, rfl⟩
  obtain ⟨b1, hb1⟩ : ∃ b1, b1 = b + 1 := ⟨_, rfl⟩
  obtain ⟨w1, hw1⟩ : ∃ w1, w.alloc (.cells #[.pointer (some ⟨g, 0, none⟩)] 24) = w1 := ⟨_, rfl⟩
  have hs1 : w1.heap.size = b1 := by rw [← hw1, hb1, ← hb]; simp
  obtain ⟨W, hW⟩ : ∃ W, w1.alloc (.cells #[.int .i64 a] 3) = W := ⟨_, rfl⟩
  have hbw1 : Below b w w1 := by rw [← hw1, ← hb]; exact (Below.refl _ _).alloc (Nat.le_refl _) _
  have hbW : Below b w W := hbw1.trans (by rw [← hW]; exact (Below.refl _ _).alloc (by omega) _)
  have k1 : Blk w1 b 24 #[.pointer (some ⟨g, 0, none⟩)] := by rw [← hw1, ← hb]; exact Blk.new _ _ _
  have cr : W.cell? ⟨b, 0, none⟩ = some (.pointer (some ⟨g, 0, none⟩)) := by rw [← hW]; exact (k1.alloc _).cell 0
  have ca : W.cell? ⟨b1, 0, none⟩ = some (.int .i64 a) := by
    have := (Blk.new w1 3 #[.int .i64 a]).cell 0
    rw [hs1, hW] at this; exact this
  have hV : RepV W g X F v := h.keep fun x hx => hbW.block x (by rw [← hb]; exact h.lt hx)
  obtain ⟨A, c, rfl⟩ := own_slice h.row
  have c1 : W.cell? ⟨g, 1, none⟩ = some (.slice A (Rn.list F).length c) := hV.blk.cell 1
  obtain ⟨n, hn⟩ : ∃ n, n = (Rn.list F).length := ⟨_, rfl⟩
  rw [← hn] at c1
  have hn5 : n ≤ 8192 := by have := list_len F; have := h.few; omega
  have NS := Lib.hid (search_any (w := W) (n := n) (cp := #[.pointer (some ⟨b, 0, none⟩), .pointer (some ⟨b1, 0, none⟩)]) (p := fun t => decide (a < ((Rn.list F).getD t (0, 0)).1)) (by omega) (fun a w => by kernel_rfl)
    (fun m i hi => by
      obtain ⟨gb, c', h', -, -, hcell, -⟩ := ownR_at hV.row (by omega)
      injection h' with h1 h2 h3
      subst h1
      exact (behind1_any (W := W.drewN m) (a := a) cr ca c1 (hcell i (by omega)).1 hi).mono fun e w' ⟨h1, q, h2⟩ => ⟨h1, m + q, by rw [h2, drewN_drewN']⟩)
    (fun x y hxy hy hx => by
      rw [decide_eq_true_eq] at hx ⊢
      rcases Nat.lt_or_ge x y with hlt | hge
      · have hp := (List.pairwise_iff_getElem.1 (Rn.good_list F).sep) x y (by omega) (by omega) hlt
        have hp : ((Rn.list F)[x]'(by omega)).1 + ((Rn.list F)[x]'(by omega)).2 < ((Rn.list F)[y]'(by omega)).1 := hp
        rw [List.getD_eq_getElem?_getD, List.getElem?_eq_getElem (by omega)] at hx ⊢
        show a < (((Rn.list F)[y]'(by omega)).1 : Int)
        have hx : a < (((Rn.list F)[x]'(by omega)).1 : Int) := hx
        omega
      · have : x = y := by omega
        subst this; exact hx))
  have HB := Lib.hid hbW
  have hnil : n = (Rn.list F).length := hn
  have Hn := Lib.hid hn
  rw [hb]
  clear hbw1 hbW k1 hV h hn hb1 hnil
  go_enter Try.func47, Try.ntmps47
  go_wp2_with fail
  refine NS.out.mono ?_
  rintro e w2 ⟨k, q, rfl, h2, hk, i1, i2⟩
  have HK := Lib.hid (show Rn.bh (Rn.list F) a = k from bh_is (by rw [← Hn.out]; exact hk) (fun t ht => by have := i1 t ht; rw [decide_eq_false_iff_not] at this; omega) (fun t h1 h2 => by have := i2 t h1 (by rw [Hn.out]; exact h2); rw [decide_eq_true_eq] at this; exact this))
  have H2 := Lib.hid (show Below b w w2 by rw [h2]; exact ⟨HB.out.os, HB.out.tape, HB.out.output, HB.out.size, HB.out.block⟩)
  clear i1 i2 h2 NS
  go_wp2_with fail
  go_ret
  rw [HK.out]
  exact ⟨rfl, H2.out⟩
end Go.Proofs.Ytfiafgmlbejboaa
