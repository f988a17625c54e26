/- The program's map of free blocks, by contracts; the statements' awake. The program's map of free blocks: where it lies; end, behind, slices.Clone; New, List, Copy, Free, Greatest. The program's runs with their uses as cells; rows of them; used, late, added; cmp.Compare. -/
import Derived.Test.YtaainefdjbmekaaSbba
import Derived.Test.YtaainefdjbmekaaSbbc
import Derived.Test.YtaainefdjbmekaaSbbd
import Derived.Test.YtaainefdjbmekaaSbj
import Derived.Laws.StructEq
import Derived.BigQuiet
namespace Go.Proofs.Ytaainefdjbmekaa
open Go.RowKit
/-- An integer of 64 bits. -/
def I64 (n : Int) : Prop := -9223372036854775808 ≤ n ∧ n < 9223372036854775808
/-- What an operation leaves: the map says F, and lies in old blocks of its own and in new ones. -/
def OpR (Rep : World → Nat → (Nat → Prop) → List Bool → Prop) (g : Nat) (X : Nat → Prop) (F : List Bool) (w w' : World) : Prop :=
  ∃ X', Rep w' g X' F ∧ (∀ b, X' b → X b ∨ w.heap.size ≤ b) ∧ Chg X w w'
/-- A part of it, for programs that have no more of the map. -/
structure RunsC0 (Rep : World → Nat → (Nat → Prop) → List Bool → Prop) : Prop where
  keep : ∀ {w w' : World} {g : Nat} {X : Nat → Prop} {F : List Bool}, Rep w g X F → (∀ b, X b → w'.heap[b]? = w.heap[b]?) → Rep w' g X F
  lt : ∀ {w : World} {g : Nat} {X : Nat → Prop} {F : List Bool}, Rep w g X F → ∀ b, X b → b < w.heap.size
  few : ∀ {w : World} {g : Nat} {X : Nat → Prop} {F : List Bool}, Rep w g X F → F.length ≤ 8192
  new : ∀ (n : Int) (w : World), I64 n → Calls Try.prog 24 #[.int .i64 n] w fun e w' => ∃ g X, e = .returned (.pointer (some ⟨g, 0, none⟩)) ∧ Rep w' g X (Rn.new n) ∧ (∀ b, X b → w.heap.size ≤ b) ∧ Below w.heap.size w w'
  take : ∀ {w : World} {g : Nat} {X : Nat → Prop} {F : List Bool}, Rep w g X F → ∀ n : Int, I64 n → Calls Try.prog 46 #[.pointer (some ⟨g, 0, none⟩), .int .i64 n] w fun e w' => e = .returned (.tuple #[.int .i64 ((Rn.take F n).1 : Int), .bool (Rn.take F n).2.1]) ∧ OpR Rep g X (Rn.take F n).2.2 w w'
  mark : ∀ {w : World} {g : Nat} {X : Nat → Prop} {F : List Bool}, Rep w g X F → ∀ a n : Int, I64 a → I64 n → Calls Try.prog 25 #[.pointer (some ⟨g, 0, none⟩), .int .i64 a, .int .i64 n] w fun e w' => e = .returned (.bool (Rn.mark F a n).1) ∧ OpR Rep g X (Rn.mark F a n).2 w w'
  give : ∀ {w : World} {g : Nat} {X : Nat → Prop} {F : List Bool}, Rep w g X F → ∀ a n : Int, I64 a → I64 n → Calls Try.prog 56 #[.pointer (some ⟨g, 0, none⟩), .int .i64 a, .int .i64 n] w fun e w' => e = .returned (.bool (Rn.give F a n).1) ∧ OpR Rep g X (Rn.give F a n).2 w w'
  free : ∀ {w : World} {g : Nat} {X : Nat → Prop} {F : List Bool}, Rep w g X F → Calls Try.prog 9 #[.pointer (some ⟨g, 0, none⟩)] w fun e w' => e = .returned (.int .i64 (Rn.freeN F : Int)) ∧ Below w.heap.size w w'
def F0 : List Bool := [true, true, true, true, true, true, true, true]
def F1 : List Bool := [false, false, false, true, true, true, true, true]
def F2 : List Bool := [false, false, false, false, false, true, true, true]
def F3 : List Bool := [true, true, true, false, false, true, true, true]
end Go.Proofs.Ytaainefdjbmekaa
namespace Go.Proofs.Ytaainefdjbmekaa
open Go.RowKit
/-- Block g is the program's map over the free blocks F, which lies in the blocks X. -/
structure RepV (w : World) (g : Nat) (X : Nat → Prop) (F : List Bool) (v : Value) : Prop where
  blk : Blk w g 80 #[.int .i64 (F.length : Int), v]
  row : OwnR w 0 v (Rn.list F)
  few : F.length ≤ 8192
  at_ : ∀ b, X b ↔ (b = g ∨ v.ownBlock = some b)
  some_ : F ≠ [] → v.ownBlock ≠ none
def RepP (w : World) (g : Nat) (X : Nat → Prop) (F : List Bool) : Prop := ∃ v, RepV w g X F v
section
variable {w w' : World} {g : Nat} {X : Nat → Prop} {F : List Bool} {v : Value}
theorem RepV.keep (h : RepV w g X F v) (hk : ∀ b, X b → w'.heap[b]? = w.heap[b]?) : RepV w' g X F v :=
  ⟨h.blk.keep (hk g ((h.at_ g).2 (.inl rfl))), own_keep h.row fun b hb _ => hk b ((h.at_ b).2 (.inr hb)), h.few, h.at_, h.some_⟩
theorem RepV.lt (h : RepV w g X F v) {b : Nat} (hb : X b) : b < w.heap.size := by
  rcases (h.at_ b).1 hb with rfl | hb
  · exact h.blk.lt
  · exact (h.row.lt b hb).2
theorem RepV.ne_ (h : RepV w g X F v) {b : Nat} (hb : v.ownBlock = some b) : b ≠ g := by
  rintro rfl
  rcases h.row.2 with ⟨rfl, -⟩ | ⟨g', c', cur, rfl, -, hg, -⟩
  · cases hb
  · injection hb with hb
    have hb : g' = b := hb
    subst hb
    have := h.blk
    unfold Blk at this
    rw [hg] at this
    injection this with this
    injection this with _ ht
    exact absurd ht (by decide)
/-- The slice, if there are blocks. -/
theorem RepV.form (h : RepV w g X F v) (hF : F ≠ []) : ∃ b c, v = .slice (some ⟨b, 0, none⟩) (Rn.list F).length c ∧ b ≠ g ∧ X b ∧ b < w.heap.size := by
  rcases h.row.2 with ⟨rfl, -⟩ | ⟨b, c, cur, rfl, -, hg, -⟩
  · exact absurd rfl (h.some_ hF)
  · exact ⟨b, c, rfl, h.ne_ rfl, (h.at_ b).2 (.inr rfl), (h.row.lt b rfl).2⟩
theorem list_len (F : List Bool) : (Rn.list F).length ≤ F.length := listK_few F F.length
theorem list_nil : Rn.list [] = [] := rfl
/-- Runs have bounds. -/
theorem list_b {F : List Bool} (hf : F.length ≤ 8192) : ∀ r ∈ Rn.list F, 1 ≤ r.2 ∧ r.1 + r.2 ≤ 8192 := fun r hr => by have := Rn.list_end F r hr; omega
end
set_option maxHeartbeats 1000000 in
theorem end_any (w : World) (a n : Nat) (ha : a ≤ 1000000) (hn : n ≤ 1000000) :
    Calls Try.prog 44 #[.agg #[.int .i64 (a : Int), .int .i64 (n : Int)]] w fun e w' => e = .returned (.int .i64 ((a + n : Nat) : Int)) ∧ Below w.heap.size w w' := by
  obtain ⟨W, hW⟩ : ∃ W, w.alloc (.cells #[.int .i64 (a : Int), .int .i64 (n : Int)] 33) = W := ⟨_, rfl⟩
  obtain ⟨b, hb⟩ : ∃ b, w.heap.size = b := ⟨_, rfl⟩
  have bx : Blk W b 33 #[.int .i64 (a : Int), .int .i64 (n : Int)] := by rw [← hW, ← hb]; exact Blk.new _ _ _
  have x0 : W.cell? ⟨b, 0, none⟩ = some (.int .i64 (a : Int)) := bx.cell 0
  have x1 : W.cell? ⟨b, 1, none⟩ = some (.int .i64 (n : Int)) := bx.cell 1
  have HB := Lib.hid (show Below b w W by rw [← hW, ← hb]; exact (Below.refl _ _).alloc (Nat.le_refl _) _)
  obtain ⟨s, hs⟩ : ∃ s, s = a + n := ⟨_, rfl⟩
  have s1 : (a : Int) + (n : Int) = (s : Int) := by omega
  have bs : s ≤ 2000000 := by omega
  rw [← hs, hb]
  clear bx hs
  go_enter Try.func44, Try.ntmps44
  go_wp2_with fail
  go_ret
  exact ⟨rfl, HB.out⟩
set_option maxRecDepth 4000 in
set_option maxHeartbeats 4000000 in
theorem search_any {w : World} {n : Nat} {cp : Array Value} {p : Nat → Bool} (hn : n ≤ 1000000) (eg : ∀ a w, (callFunc 76 (#[a] ++ cp)).run Try.prog w = .ok (.enter 76 (#[a] ++ cp)) w)
    (hf : ∀ m i : Nat, i < n → Calls Try.prog 76 (#[.int .i64 (i : Int)] ++ cp) (w.drewN m) fun e w' => e = .returned (.bool (p i)) ∧ ∃ q, w' = w.drewN q)
    (hmono : ∀ a b, a ≤ b → b < n → p a = true → p b = true) :
    Calls Try.prog 75 #[.int .i64 (n : Int), .func (.func 76) #[] cp] w fun e w' => ∃ k q : Nat, e = .returned (.int .i64 (k : Int)) ∧ w' = w.drewN q ∧ k ≤ n ∧ (∀ t, t < k → p t = false) ∧ ∀ t, k ≤ t → t < n → p t = true := by
  have HF := Lib.hid hf
  have HM := Lib.hid hmono
  clear hf hmono
  go_enter Try.func75, Try.ntmps75
  go_wp2_with fail
  go_loopw [5, 6] (fun s5 s6 wr => ∃ lo hi q : Nat, s5 = .int .i64 (lo : Int) ∧ s6 = .int .i64 (hi : Int) ∧ lo ≤ hi ∧ hi ≤ n ∧ wr = w.drewN q ∧ (∀ t, t < lo → p t = false) ∧ ∀ t, hi ≤ t → t < n → p t = true) (fun s5 s6 _ => (intOf s6).toNat - (intOf s5).toNat)
  case atStart => exact ⟨0, n, 0, rfl, rfl, Nat.zero_le _, Nat.le_refl _, rfl, fun t ht => absurd ht (Nat.not_lt_zero _), fun t h1 h2 => absurd h2 (Nat.not_lt.2 h1)⟩
  case round =>
    obtain ⟨lo, hi, q, rfl, rfl, hlh, hin, hw, i1, i2⟩ := hrel
    have I1 := Lib.hid i1
    have I2 := Lib.hid i2
    have Hw := Lib.hid hw
    clear i1 i2 hw
    by_cases hlt : lo < hi
    · obtain ⟨mid, hm⟩ : ∃ mid : Nat, mid = (lo + hi) / 2 := ⟨_, rfl⟩
      have s1 : ((lo : Int) + (hi : Int)) / 2 = (mid : Int) := by omega
      have hmid : lo ≤ mid ∧ mid < hi := by omega
      have hc := HF.out q mid (by omega)
      rw [← Hw.out] at hc
      have HC := Lib.hid hc
      have d1 : decide ((lo : Int) < (hi : Int)) = true := by rw [decide_eq_true_eq]; omega
      have d1' : decide (lo < hi) = true := by rw [decide_eq_true_eq]; omega
      clear hc
      cases hp : p mid with
      | true =>
        have HP := Lib.hid hp
        rw [hp] at HC
        clear hp hm
        go_wp2_with (go_at_fn 76; refine HC.out.mono ?_; rintro e w2 ⟨rfl, q2, h2⟩)
        have H2 := Lib.hid h2
        clear h2
        go_wp2_with fail
        go_roundw
        case rel => exact ⟨lo, mid, q2, rfl, rfl, by omega, by omega, rfl, I1.out, fun t h1 h2 => HM.out mid t h1 h2 HP.out⟩
        case measure => simp [intOf]; omega
      | false =>
        have HP := Lib.hid hp
        rw [hp] at HC
        clear hp hm
        go_wp2_with (go_at_fn 76; refine HC.out.mono ?_; rintro e w2 ⟨rfl, q2, h2⟩)
        have H2 := Lib.hid h2
        clear h2
        go_wp2_with fail
        go_roundw
        case rel => exact ⟨mid + 1, hi, q2, by go_num, rfl, by omega, by omega, rfl, (fun t ht => by
          cases h : p t with
          | false => rfl
          | true => have := HM.out t mid (by omega) (by omega) h; rw [HP.out] at this; cases this), I2.out⟩
        case measure => simp [intOf]; omega
    · obtain rfl : lo = hi := by omega
      have d1 : decide ((lo : Int) < (lo : Int)) = false := by simp
      have d1' : decide (lo < lo) = false := by simp
      go_wp2_with fail
      go_ret
      exact ⟨lo, q, rfl, Hw.out, hin, I1.out, I2.out⟩
set_option maxHeartbeats 2000000 in
theorem behind1_any {W : World} {br ba g gb c n i s : Nat} {a : Int} (cr : W.cell? ⟨br, 0, none⟩ = some (.pointer (some ⟨g, 0, none⟩))) (ca : W.cell? ⟨ba, 0, none⟩ = some (.int .i64 a)) (c1 : W.cell? ⟨g, 1, none⟩ = some (.slice (some ⟨gb, 0, none⟩) n c))
    (ci : W.cell? ⟨gb, i * 2, none⟩ = some (.int .i64 (s : Int))) (hi : i < n) :
    Calls Try.prog 76 #[.int .i64 (i : Int), .pointer (some ⟨br, 0, none⟩), .pointer (some ⟨ba, 0, none⟩)] W fun e w' => e = .returned (.bool (decide (a < (s : Int)))) ∧ ∃ q, w' = W.drewN q := by
  have hi' : (i : Int) < (n : Int) := by omega
  have mixed : Try.prog.follows .mixedOrders = true := by kernel_rfl
  go_enter Try.func76, Try.ntmps76
  go_wp2_with fail
  go_quiet (fail)
  go_wp2_with fail
  go_ret
  exact ⟨rfl, _, rfl⟩
theorem bh_is {L : List (Nat × Nat)} {a : Int} {k : Nat} (hk : k ≤ L.length) (h1 : ∀ t, t < k → ((L.getD t (0, 0)).1 : Int) ≤ a) (h2 : ∀ t, k ≤ t → t < L.length → a < ((L.getD t (0, 0)).1 : Int)) : Rn.bh L a = k := by
  have e : L = L.take k ++ L.drop k := (List.take_append_drop k L).symm
  have at_ : ∀ t (ht : t < L.length), L.getD t (0, 0) = L[t] := fun t ht => by rw [List.getD_eq_getElem?_getD, List.getElem?_eq_getElem ht]; rfl
  unfold Rn.bh
  rw [e, List.countP_append, List.countP_eq_length.2, List.countP_eq_zero.2, List.length_take, Nat.min_eq_left hk, Nat.add_zero]
  · intro r hr
    obtain ⟨i, hi, rfl⟩ := List.mem_iff_getElem.1 hr
    rw [List.getElem_drop]
    have hi' : k + i < L.length := by simp at hi; omega
    have := h2 (k + i) (by omega) hi'
    rw [at_ _ hi'] at this
    simp; omega
  · intro r hr
    obtain ⟨i, hi, rfl⟩ := List.mem_iff_getElem.1 hr
    rw [List.getElem_take]
    have hi' : i < k := by simp at hi; omega
    have := h1 i hi'
    rw [at_ _ (by omega)] at this
    simpa using this
theorem drewN_drewN' (w : World) (a b : Nat) : (w.drewN a).drewN b = w.drewN (a + b) := World.drewN_drewN w a b
set_option maxRecDepth 4000 in
set_option maxHeartbeats 4000000 in
theorem behind_any {w : World} {g : Nat} {X : Nat → Prop} {F : List Bool} {v : Value} (h : RepV w g X F v) (a : Int) :
    Calls Try.prog 43 #[.pointer (some ⟨g, 0, none⟩), .int .i64 a] w fun e w' => e = .returned (.int .i64 (Rn.bh (Rn.list F) a : Int)) ∧ Below w.heap.size w w' := by
  obtain ⟨b, hb⟩ : ∃ b, w.heap.size = b := ⟨_, rfl⟩
  obtain ⟨b1, hb1⟩ : ∃ b1, b1 = b + 1 := ⟨_, rfl⟩
  obtain ⟨w1, hw1⟩ : ∃ w1, w.alloc (.cells #[.pointer (some ⟨g, 0, none⟩)] 26) = w1 := ⟨_, rfl⟩
  have hs1 : w1.heap.size = b1 := by rw [← hw1, hb1, ← hb]; simp
  obtain ⟨W, hW⟩ : ∃ W, w1.alloc (.cells #[.int .i64 a] 3) = W := ⟨_, rfl⟩
  have hbw1 : Below b w w1 := by rw [← hw1, ← hb]; exact (Below.refl _ _).alloc (Nat.le_refl _) _
  have hbW : Below b w W := hbw1.trans (by rw [← hW]; exact (Below.refl _ _).alloc (by omega) _)
  have k1 : Blk w1 b 26 #[.pointer (some ⟨g, 0, none⟩)] := by rw [← hw1, ← hb]; exact Blk.new _ _ _
  have cr : W.cell? ⟨b, 0, none⟩ = some (.pointer (some ⟨g, 0, none⟩)) := by rw [← hW]; exact (k1.alloc _).cell 0
  have ca : W.cell? ⟨b1, 0, none⟩ = some (.int .i64 a) := by
    have := (Blk.new w1 3 #[.int .i64 a]).cell 0
    rw [hs1, hW] at this; exact this
  have hV : RepV W g X F v := h.keep fun x hx => hbW.block x (by rw [← hb]; exact h.lt hx)
  obtain ⟨A, c, rfl⟩ := own_slice h.row
  have c1 : W.cell? ⟨g, 1, none⟩ = some (.slice A (Rn.list F).length c) := hV.blk.cell 1
  obtain ⟨n, hn⟩ : ∃ n, n = (Rn.list F).length := ⟨_, rfl⟩
  rw [← hn] at c1
  have hn5 : n ≤ 8192 := by have := list_len F; have := h.few; omega
  have NS := Lib.hid (search_any (w := W) (n := n) (cp := #[.pointer (some ⟨b, 0, none⟩), .pointer (some ⟨b1, 0, none⟩)]) (p := fun t => decide (a < ((Rn.list F).getD t (0, 0)).1)) (by omega) (fun a w => by kernel_rfl)
    (fun m i hi => by
      obtain ⟨gb, c', h', -, -, hcell, -⟩ := ownR_at hV.row (by omega)
      injection h' with h1 h2 h3
      subst h1
      exact (behind1_any (W := W.drewN m) (a := a) cr ca c1 (hcell i (by omega)).1 hi).mono fun e w' ⟨h1, q, h2⟩ => ⟨h1, m + q, by rw [h2, drewN_drewN']⟩)
    (fun x y hxy hy hx => by
      rw [decide_eq_true_eq] at hx ⊢
      rcases Nat.lt_or_ge x y with hlt | hge
      · have hp := (List.pairwise_iff_getElem.1 (Rn.good_list F).sep) x y (by omega) (by omega) hlt
        have hp : ((Rn.list F)[x]'(by omega)).1 + ((Rn.list F)[x]'(by omega)).2 < ((Rn.list F)[y]'(by omega)).1 := hp
        rw [List.getD_eq_getElem?_getD, List.getElem?_eq_getElem (by omega)] at hx ⊢
        show a < (((Rn.list F)[y]'(by omega)).1 : Int)
        have hx : a < (((Rn.list F)[x]'(by omega)).1 : Int) := hx
        omega
      · have : x = y := by omega
        subst this; exact hx))
  have HB := Lib.hid hbW
  have hnil : n = (Rn.list F).length := hn
  have Hn := Lib.hid hn
  rw [hb]
  clear hbw1 hbW k1 hV h hn hb1 hnil
  go_enter Try.func43, Try.ntmps43
  go_wp2_with fail
  refine NS.out.mono ?_
  rintro e w2 ⟨k, q, rfl, h2, hk, i1, i2⟩
  have HK := Lib.hid (show Rn.bh (Rn.list F) a = k from bh_is (by rw [← Hn.out]; exact hk) (fun t ht => by have := i1 t ht; rw [decide_eq_false_iff_not] at this; omega) (fun t h1 h2 => by have := i2 t h1 (by rw [Hn.out]; exact h2); rw [decide_eq_true_eq] at this; exact this))
  have H2 := Lib.hid (show Below b w w2 by rw [h2]; exact ⟨HB.out.os, HB.out.tape, HB.out.output, HB.out.size, HB.out.block⟩)
  clear i1 i2 h2 NS
  go_wp2_with fail
  go_ret
  rw [HK.out]
  exact ⟨rfl, H2.out⟩
end Go.Proofs.Ytaainefdjbmekaa
namespace Go.Proofs.Ytaainefdjbmekaa
open Go.RowKit
/-- The program's runs as cells. -/
def kcs : List Sk.K → List Value
  | [] => []
  | u :: l => .int .i64 (u.1 : Int) :: .int .i64 (u.2.1 : Int) :: .int .i64 (u.2.2.1 : Int) :: .int .i64 (u.2.2.2 : Int) :: kcs l
theorem kcs_app : ∀ l m : List Sk.K, kcs (l ++ m) = kcs l ++ kcs m
  | [], _ => rfl
  | u :: l, m => by rw [List.cons_append, kcs, kcs, kcs_app l m]; rfl
theorem kcs_at : ∀ {l : List Sk.K} {k : Nat}, k < l.length → (kcs l)[k * 4]? = some (.int .i64 ((Sk.at_ l k).1 : Int)) ∧ (kcs l)[k * 4 + 1]? = some (.int .i64 ((Sk.at_ l k).2.1 : Int)) ∧ (kcs l)[k * 4 + 2]? = some (.int .i64 ((Sk.at_ l k).2.2.1 : Int)) ∧ (kcs l)[k * 4 + 3]? = some (.int .i64 ((Sk.at_ l k).2.2.2 : Int))
  | u :: l, 0, _ => ⟨rfl, rfl, rfl, rfl⟩
  | u :: l, k + 1, h => by
    have := kcs_at (l := l) (k := k) (by simpa using h)
    rw [show (k + 1) * 4 = k * 4 + 1 + 1 + 1 + 1 by omega, kcs]
    simp only [List.getElem?_cons_succ]
    exact this
theorem kcs_take (l : List Sk.K) (k : Nat) : (kcs l).take (k * 4) = kcs (l.take k) := by
  induction l generalizing k with
  | nil => simp [kcs]
  | cons u l ih =>
    cases k with
    | zero => rfl
    | succ k => rw [show (k + 1) * 4 = k * 4 + 1 + 1 + 1 + 1 by omega, kcs, List.take_succ_cons, List.take_succ_cons, List.take_succ_cons, List.take_succ_cons, ih]; rfl
theorem kcs_drop (l : List Sk.K) (k : Nat) : (kcs l).drop (k * 4) = kcs (l.drop k) := by
  induction l generalizing k with
  | nil => simp [kcs]
  | cons u l ih =>
    cases k with
    | zero => rfl
    | succ k => rw [show (k + 1) * 4 = k * 4 + 1 + 1 + 1 + 1 by omega, kcs, List.drop_succ_cons, List.drop_succ_cons, List.drop_succ_cons, List.drop_succ_cons, ih]; rfl
theorem kcs_one (l : List Sk.K) : ∀ u ∈ kcs l, u.oneCell' = true := by
  induction l with
  | nil => simp [kcs]
  | cons a l ih =>
    intro u hu
    rw [kcs] at hu
    simp only [List.mem_cons] at hu
    rcases hu with rfl | rfl | rfl | rfl | hu
    · rfl
    · rfl
    · rfl
    · rfl
    · exact ih u hu
/-- Uses set at one place. -/
theorem kcs_put : ∀ (l : List Sk.K) (k m : Nat), k < l.length → (kcs l).set (k * 4 + 2) (.int .i64 (m : Int)) = kcs (Sk.putU l k m)
  | u :: l, 0, m, _ => rfl
  | u :: l, k + 1, m, h => by
    have := kcs_put l k m (by simpa using h)
    rw [show (k + 1) * 4 + 2 = k * 4 + 2 + 1 + 1 + 1 + 1 by omega, kcs]
    simp only [List.set_cons_succ]
    rw [this]
    rfl
theorem kcs_set : ∀ (l : List Sk.K) (k m : Nat), k < l.length → (kcs l).set (k * 4 + 3) (.int .i64 (m : Int)) = kcs (l.set k ((Sk.at_ l k).1, (Sk.at_ l k).2.1, (Sk.at_ l k).2.2.1, m))
  | u :: l, 0, m, _ => rfl
  | u :: l, k + 1, m, h => by
    have := kcs_set l k m (by simpa using h)
    rw [show (k + 1) * 4 + 3 = k * 4 + 3 + 1 + 1 + 1 + 1 by omega, kcs]
    simp only [List.set_cons_succ]
    rw [this]
    rfl
theorem share_parts : ∃ i, Try.prog.info? 84 = some i ∧ i.zero = some (.agg #[.int .i64 0, .int .i64 0, .int .i64 0, .int .i64 0]) ∧ i.size = 4 ∧ i.bytes = 32 := by
  have h : (Try.prog.info? 84).map (fun i => (i.zero, i.size, i.bytes)) = some (some (.agg #[.int .i64 0, .int .i64 0, .int .i64 0, .int .i64 0]), 4, 32) := by kernel_rfl
  obtain ⟨i, hi, hh⟩ := Option.map_eq_some_iff.1 h
  simp only [Prod.mk.injEq] at hh
  exact ⟨i, hi, hh.1, hh.2.1, hh.2.2⟩
/-- A row of the program's runs of one's own. -/
abbrev OwnK (w : World) (B : Nat) (v : Value) (l : List Sk.K) : Prop := w.ownsRow B 84 4 v l.length (kcs l)
theorem ownK_at {w : World} {B : Nat} {v : Value} {l : List Sk.K} (h : OwnK w B v l) (hn : 0 < l.length) : ∃ g c, v = .slice (some ⟨g, 0, none⟩) l.length c ∧ B ≤ g ∧ g < w.heap.size ∧
    ∀ k, k < l.length → w.cell? ⟨g, k * 4, none⟩ = some (.int .i64 ((Sk.at_ l k).1 : Int)) ∧ w.cell? ⟨g, k * 4 + 1, none⟩ = some (.int .i64 ((Sk.at_ l k).2.1 : Int)) ∧ w.cell? ⟨g, k * 4 + 2, none⟩ = some (.int .i64 ((Sk.at_ l k).2.2.1 : Int)) ∧ w.cell? ⟨g, k * 4 + 3, none⟩ = some (.int .i64 ((Sk.at_ l k).2.2.2 : Int)) := by
  have hlt := h.lt
  rcases h.2 with ⟨h', h0⟩ | ⟨g, cap, cur, h', hg, _⟩
  · omega
  · subst h'
    refine ⟨g, cap, rfl, hg, (hlt g rfl).2, fun k hk => ?_⟩
    obtain ⟨e1, e2, e3, e4⟩ := kcs_at hk
    exact ⟨by rw [h.cellAt (k * 4) (by omega), e1], by rw [h.cellAt (k * 4 + 1) (by omega), e2], by rw [h.cellAt (k * 4 + 2) (by omega), e3], by rw [h.cellAt (k * 4 + 3) (by omega), e4]⟩
theorem ownK_slice {w : World} {B : Nat} {v : Value} {l : List Sk.K} (h : OwnK w B v l) : ∃ A c, v = .slice A l.length c ∧ l.length ≤ c ∧ (A = none → c = 0) := by
  obtain ⟨A, c, rfl⟩ := own_slice h
  exact ⟨A, c, rfl, own_len h, own_none h⟩
/-- Bounds that keep all sums far from overflow. -/
structure KB (l : List Sk.K) : Prop where
  few : l.length ≤ 100000
  at_ : ∀ k, (Sk.at_ l k).1 ≤ 1000000 ∧ (Sk.at_ l k).2.1 ≤ 1000000 ∧ (Sk.at_ l k).2.2.1 ≤ 1000000000 ∧ (Sk.at_ l k).2.2.2 ≤ 1000000000
theorem kb_of {l : List Sk.K} (h1 : UOk (Sk.ofN l)) (h2 : UOk (Sk.ofW l)) : KB l := by
  refine ⟨by rw [← Sk.ofN_len]; exact h1.1, fun k => ?_⟩
  rcases Nat.lt_or_ge k l.length with hk | hk
  · have hm : Sk.at_ l k ∈ l := by rw [Sk.at_eq hk]; exact List.getElem_mem hk
    obtain ⟨a1, a2, a3⟩ := h1.2 (Sk.toN (Sk.at_ l k)) (List.mem_map.2 ⟨_, hm, rfl⟩)
    refine ⟨a1, a2, a3, ?_⟩
    cases hA : Sk.isA (Sk.at_ l k) with
    | true => have : (Sk.at_ l k).2.2.2 = 0 := by simpa [Sk.isA] using hA
              omega
    | false => exact (h2.2 (Sk.toW (Sk.at_ l k)) (List.mem_map.2 ⟨_, List.mem_filter.2 ⟨hm, by simp [hA]⟩, rfl⟩)).2.2
  · unfold Sk.at_
    rw [List.getD_eq_getElem?_getD, List.getElem?_eq_none hk]
    exact ⟨by decide, by decide, by decide, by decide⟩
/-- What late, used, added are: functions of a run, without a change of older memory. -/
def PredC (f : FuncId) (p : Sk.K → Bool) : Prop := ∀ (a b c d : Nat) (w : World), Calls Try.prog f #[.agg #[.int .i64 (a : Int), .int .i64 (b : Int), .int .i64 (c : Int), .int .i64 (d : Int)]] w fun e w' => e = .returned (.bool (p (a, b, c, d))) ∧ Below w.heap.size w w'
set_option maxHeartbeats 1000000 in
theorem klate_any : PredC 37 Sk.isL := by
  intro a b c d w
  obtain ⟨W, hW⟩ : ∃ W, w.alloc (.cells #[.int .i64 (a : Int), .int .i64 (b : Int), .int .i64 (c : Int), .int .i64 (d : Int)] 84) = W := ⟨_, rfl⟩
  obtain ⟨g, hg⟩ : ∃ g, w.heap.size = g := ⟨_, rfl⟩
  have bx : Blk W g 84 #[.int .i64 (a : Int), .int .i64 (b : Int), .int .i64 (c : Int), .int .i64 (d : Int)] := by rw [← hW, ← hg]; exact Blk.new _ _ _
  have x2 : W.cell? ⟨g, 2, none⟩ = some (.int .i64 (c : Int)) := bx.cell 2
  have x3 : W.cell? ⟨g, 3, none⟩ = some (.int .i64 (d : Int)) := bx.cell 3
  have HB := Lib.hid (show Below g w W by rw [← hW, ← hg]; exact (Below.refl _ _).alloc (Nat.le_refl _) _)
  rw [hg]
  clear bx
  obtain ⟨P, hP⟩ : ∃ P, P = Sk.isL (a, b, c, d) := ⟨_, rfl⟩
  rw [← hP]
  have z1 : ((c : Int) == 0) = P := by
    rw [hP]
    show ((c : Int) == 0) = (c == 0)
    cases hb : (c == 0) with
    | true => rw [beq_iff_eq] at hb ⊢; omega
    | false => rw [beq_eq_false_iff_ne] at hb ⊢; omega
  clear hP
  go_enter Try.func37, Try.ntmps37
  go_wp2_with fail
  go_ret
  exact ⟨rfl, HB.out⟩
set_option maxHeartbeats 1000000 in
theorem kadded_any : PredC 34 Sk.isA := by
  intro a b c d w
  obtain ⟨W, hW⟩ : ∃ W, w.alloc (.cells #[.int .i64 (a : Int), .int .i64 (b : Int), .int .i64 (c : Int), .int .i64 (d : Int)] 84) = W := ⟨_, rfl⟩
  obtain ⟨g, hg⟩ : ∃ g, w.heap.size = g := ⟨_, rfl⟩
  have bx : Blk W g 84 #[.int .i64 (a : Int), .int .i64 (b : Int), .int .i64 (c : Int), .int .i64 (d : Int)] := by rw [← hW, ← hg]; exact Blk.new _ _ _
  have x2 : W.cell? ⟨g, 2, none⟩ = some (.int .i64 (c : Int)) := bx.cell 2
  have x3 : W.cell? ⟨g, 3, none⟩ = some (.int .i64 (d : Int)) := bx.cell 3
  have HB := Lib.hid (show Below g w W by rw [← hW, ← hg]; exact (Below.refl _ _).alloc (Nat.le_refl _) _)
  rw [hg]
  clear bx
  obtain ⟨P, hP⟩ : ∃ P, P = Sk.isA (a, b, c, d) := ⟨_, rfl⟩
  rw [← hP]
  have z1 : ((d : Int) == 0) = P := by
    rw [hP]
    show ((d : Int) == 0) = (d == 0)
    cases hb : (d == 0) with
    | true => rw [beq_iff_eq] at hb ⊢; omega
    | false => rw [beq_eq_false_iff_ne] at hb ⊢; omega
  clear hP
  go_enter Try.func34, Try.ntmps34
  go_wp2_with fail
  go_ret
  exact ⟨rfl, HB.out⟩
set_option maxHeartbeats 1000000 in
theorem kused_any : PredC 57 (fun k => !Sk.isL k) := by
  intro a b c d w
  obtain ⟨W, hW⟩ : ∃ W, w.alloc (.cells #[.int .i64 (a : Int), .int .i64 (b : Int), .int .i64 (c : Int), .int .i64 (d : Int)] 84) = W := ⟨_, rfl⟩
  obtain ⟨g, hg⟩ : ∃ g, w.heap.size = g := ⟨_, rfl⟩
  have bx : Blk W g 84 #[.int .i64 (a : Int), .int .i64 (b : Int), .int .i64 (c : Int), .int .i64 (d : Int)] := by rw [← hW, ← hg]; exact Blk.new _ _ _
  have x2 : W.cell? ⟨g, 2, none⟩ = some (.int .i64 (c : Int)) := bx.cell 2
  have x3 : W.cell? ⟨g, 3, none⟩ = some (.int .i64 (d : Int)) := bx.cell 3
  have HB := Lib.hid (show Below g w W by rw [← hW, ← hg]; exact (Below.refl _ _).alloc (Nat.le_refl _) _)
  rw [hg]
  clear bx
  obtain ⟨P, hP⟩ : ∃ P, P = (fun k => !Sk.isL k) (a, b, c, d) := ⟨_, rfl⟩
  rw [← hP]
  have z1 : decide ((0 : Int) < (c : Int)) = P := by
    rw [hP]
    show decide ((0 : Int) < (c : Int)) = !(c == 0)
    cases hb : (c == 0) with
    | true => rw [beq_iff_eq] at hb; subst hb; rfl
    | false => rw [beq_eq_false_iff_ne] at hb; simp; omega
  have z1' : decide (0 < c) = P := by
    rw [← z1]
    by_cases h : 0 < c
    · rw [decide_eq_true h, decide_eq_true (by omega)]
    · rw [decide_eq_false h, decide_eq_false (by omega)]
  clear hP
  go_enter Try.func57, Try.ntmps57
  go_wp2_with fail
  go_ret
  exact ⟨rfl, HB.out⟩
set_option maxHeartbeats 1000000 in
theorem isnan_any (a : Int) (w : World) : Calls Try.prog 82 #[.int .i64 a] w fun e w' => e = .returned (.bool false) ∧ w = w' := by
  have z1 : (a != a) = false := by simp
  have z2 : (a == a) = true := by simp
  go_enter Try.func82, Try.ntmps82
  go_wp2_with fail
  go_ret
  exact ⟨rfl, rfl⟩
def cmpI (a b : Int) : Int := if a < b then -1 else if b < a then 1 else 0
set_option maxRecDepth 20000 in
set_option maxHeartbeats 2000000 in
theorem compare_any (a b : Int) (w : World) : Calls Try.prog 53 #[.int .i64 a, .int .i64 b] w fun e w' => e = .returned (.int .i64 (cmpI a b)) ∧ w = w' := by
  have N1 := isnan_any a w
  have N2 := isnan_any b w
  by_cases h1 : a < b
  · have z1 : decide (a < b) = true := by rw [decide_eq_true_eq]; exact h1
    have E : cmpI a b = -1 := by unfold cmpI; rw [if_pos h1]
    rw [E]
    clear h1 E
    go_enter Try.func53, Try.ntmps53
    go_wp2_with (first | (refine N1.mono ?_; rintro e w' ⟨rfl, rfl⟩) | (refine N2.mono ?_; rintro e w' ⟨rfl, rfl⟩))
    go_ret
    exact ⟨rfl, rfl⟩
  have z1 : decide (a < b) = false := by rw [decide_eq_false_iff_not]; exact h1
  by_cases h2 : b < a
  · have z2 : decide (b < a) = true := by rw [decide_eq_true_eq]; exact h2
    have E : cmpI a b = 1 := by unfold cmpI; rw [if_neg h1, if_pos h2]
    rw [E]
    clear h1 h2 E
    go_enter Try.func53, Try.ntmps53
    go_wp2_with (first | (refine N1.mono ?_; rintro e w' ⟨rfl, rfl⟩) | (refine N2.mono ?_; rintro e w' ⟨rfl, rfl⟩))
    go_ret
    exact ⟨rfl, rfl⟩
  have z2 : decide (b < a) = false := by rw [decide_eq_false_iff_not]; exact h2
  have E : cmpI a b = 0 := by unfold cmpI; rw [if_neg h1, if_neg h2]
  rw [E]
  clear h1 h2 E
  go_enter Try.func53, Try.ntmps53
  go_wp2_with (first | (refine N1.mono ?_; rintro e w' ⟨rfl, rfl⟩) | (refine N2.mono ?_; rintro e w' ⟨rfl, rfl⟩))
  go_ret
  exact ⟨rfl, rfl⟩
/-- The program's comparison of a run with a block. -/
theorem find1_any (a b c d : Nat) (t : Int) (w : World) : Calls Try.prog 52 #[.agg #[.int .i64 (a : Int), .int .i64 (b : Int), .int .i64 (c : Int), .int .i64 (d : Int)], .int .i64 t] w fun e w' => e = .returned (.int .i64 (cmpI (a : Int) t)) ∧ Below w.heap.size w w' := by
  obtain ⟨W, hW⟩ : ∃ W, w.alloc (.cells #[.int .i64 (a : Int), .int .i64 (b : Int), .int .i64 (c : Int), .int .i64 (d : Int)] 84) = W := ⟨_, rfl⟩
  obtain ⟨g, hg⟩ : ∃ g, w.heap.size = g := ⟨_, rfl⟩
  have bx : Blk W g 84 #[.int .i64 (a : Int), .int .i64 (b : Int), .int .i64 (c : Int), .int .i64 (d : Int)] := by rw [← hW, ← hg]; exact Blk.new _ _ _
  have x0 : W.cell? ⟨g, 0, none⟩ = some (.int .i64 (a : Int)) := bx.cell 0
  have HB := Lib.hid (show Below g w W by rw [← hW, ← hg]; exact (Below.refl _ _).alloc (Nat.le_refl _) _)
  have N1 := Lib.hid (compare_any (a : Int) t W)
  rw [hg]
  clear bx
  go_enter Try.func52, Try.ntmps52
  go_wp2_with (refine N1.out.mono ?_; rintro e w' ⟨rfl, h2⟩; subst h2)
  go_ret
  exact ⟨rfl, HB.out⟩
end Go.Proofs.Ytaainefdjbmekaa
