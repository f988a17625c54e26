/- The program's change, Empty. The program's Put, Cut, Empty. -/
import Derived.Test.YtlcchefiicalpaaZwcc
import Derived.Test.YtlcchefiicalpaaZwcg
import Derived.Test.YtlcchefiicalpaaZwcj
namespace Go.Proofs.Ytlcchefiicalpaa
open Go.RowKit
/-- What is asked of inOrder: a row of one's own goes in, a new one comes out. -/
def InC : Prop := ∀ {w : World} {B : Nat} {A : Option Addr} {c n : Nat} {l : List Tr.Ed}, w.ownsRow B 146 6 (.slice A n c) n (edcs l) → l.length = n → 0 < n → n ≤ 100000 →
  Calls Try.prog 88 #[.slice A n c] w fun e w' => ∃ A' c', e = .returned (.slice A' (Tr.inOrder l).length c') ∧ Chg (fun b => (Value.slice A n c).ownBlock = some b) w w' ∧ w'.ownsRow w.heap.size 146 6 (.slice A' (Tr.inOrder l).length c') (Tr.inOrder l).length (edcs (Tr.inOrder l))
/-- A block of one's own beside the store, and beside blocks G that may change. -/
structure RcG {σ : Type} (D : StoI σ) (W0 : World) (X G : Nat → Prop) (st : σ) (w : World) (Xr : Nat → Prop) (rb : Nat) (t : TypeId) (C : Array Value) : Prop where
  rep : D.Rep w Xr st
  chg : Chg (fun b => X b ∨ G b) W0 w
  new : ∀ b, Xr b → X b ∨ W0.heap.size ≤ b
  blk : Blk w rb t C
  far : ¬ Xr rb
  ge : W0.heap.size ≤ rb
section
variable {σ : Type} {D : StoI σ} {W0 : World} {X G : Nat → Prop} {st : σ} {w : World} {Xr : Nat → Prop} {rb : Nat} {t : TypeId} {C : Array Value}
theorem RcG.step (h : RcG D W0 X G st w Xr rb t C) {w' : World} {X' : Nat → Prop} {st' : σ} (hr : D.Rep w' X' st') (hs : Stp w Xr w' X') : RcG D W0 X G st' w' X' rb t C :=
  ⟨hr, ⟨hs.chg.os.trans h.chg.os, hs.chg.tape.trans h.chg.tape, hs.chg.output.trans h.chg.output, Nat.le_trans h.chg.size hs.chg.size, fun i hi hn => (hs.chg.block i (Nat.lt_of_lt_of_le hi h.chg.size) fun hx => (h.new i hx).elim (fun hx => hn (.inl hx)) fun hx => by omega).trans (h.chg.block i hi hn)⟩,
    fun b hb => (hs.new b hb).elim (h.new b) fun hb => .inr (Nat.le_trans h.chg.size hb), h.blk.keep (hs.chg.block rb h.blk.lt h.far), hs.far h.blk.lt h.far, h.ge⟩
theorem RcG.below (h : RcG D W0 X G st w Xr rb t C) {w' : World} (hb : Below w.heap.size w w') : RcG D W0 X G st w' Xr rb t C := h.step (D.below h.rep hb) (.of_below Xr hb)
theorem RcG.other (h : RcG D W0 X G st w Xr rb t C) {w' : World} {F : Nat → Prop} (hC : Chg F w w') (hF : ∀ b, F b → (G b ∨ W0.heap.size ≤ b) ∧ ¬ Xr b ∧ b ≠ rb) : RcG D W0 X G st w' Xr rb t C :=
  ⟨D.keep h.rep hC fun b hx hf => (hF b hf).2.1 hx, ⟨hC.os.trans h.chg.os, hC.tape.trans h.chg.tape, hC.output.trans h.chg.output, Nat.le_trans h.chg.size hC.size, fun i hi hn => (hC.block i (Nat.lt_of_lt_of_le hi h.chg.size) fun hf => (hF i hf).1.elim (fun hg => hn (.inr hg)) fun hg => by omega).trans (h.chg.block i hi hn)⟩,
    h.new, h.blk.keep (hC.block rb h.blk.lt fun hf => (hF rb hf).2.2 rfl), h.far, h.ge⟩
theorem RcG.start (hr : D.Rep W0 X st) (G : Nat → Prop) (t : TypeId) (C : Array Value) : RcG D W0 X G st (W0.alloc (.cells C t)) X W0.heap.size t C :=
  ⟨D.below hr (below_alloc1 _ _), .of_below _ (below_alloc1 _ _), fun _ h => .inl h, Blk.new _ _ _, D.fresh hr, Nat.le_refl _⟩
theorem RcG.more (h : RcG D W0 X G st w Xr rb t C) (t' : TypeId) (C' : Array Value) : RcG D W0 X G st (w.alloc (.cells C' t')) Xr w.heap.size t' C' :=
  ⟨D.below h.rep (below_alloc1 _ _), (h.below (below_alloc1 _ _)).chg, h.new, Blk.new _ _ _, D.fresh h.rep, h.chg.size⟩
theorem RcG.four {a b c d : Value} (h : RcG D W0 X G st w Xr rb t #[a, b, c, d]) (a' b' c' d' : Value) :
    ∃ s1 s2 s3 s4, w.setCell ⟨rb, 0, none⟩ a' = s1 ∧ s1.setCell ⟨rb, 1, none⟩ b' = s2 ∧ s2.setCell ⟨rb, 2, none⟩ c' = s3 ∧ s3.setCell ⟨rb, 3, none⟩ d' = s4 ∧
      (w.frozen? ⟨rb, 0, none⟩ = false ∧ s1.frozen? ⟨rb, 1, none⟩ = false ∧ s2.frozen? ⟨rb, 2, none⟩ = false ∧ s3.frozen? ⟨rb, 3, none⟩ = false) ∧
      (w.cell? ⟨rb, 0, none⟩ = some a ∧ s1.cell? ⟨rb, 1, none⟩ = some b ∧ s2.cell? ⟨rb, 2, none⟩ = some c ∧ s3.cell? ⟨rb, 3, none⟩ = some d) ∧
      (s4.cell? ⟨rb, 0, none⟩ = some a' ∧ s4.cell? ⟨rb, 1, none⟩ = some b' ∧ s4.cell? ⟨rb, 2, none⟩ = some c' ∧ s4.cell? ⟨rb, 3, none⟩ = some d') ∧ RcG D W0 X G st s4 Xr rb t #[a', b', c', d'] := by
  refine ⟨_, _, _, _, rfl, rfl, rfl, rfl, ?_⟩
  have k1 := h.blk
  have r1 : Blk (w.setCell ⟨rb, 0, none⟩ a') rb t #[a', b, c, d] := k1.set_ 0 _
  have r2 : Blk ((w.setCell ⟨rb, 0, none⟩ a').setCell ⟨rb, 1, none⟩ b') rb t #[a', b', c, d] := r1.set_ 1 _
  have r3 : Blk (((w.setCell ⟨rb, 0, none⟩ a').setCell ⟨rb, 1, none⟩ b').setCell ⟨rb, 2, none⟩ c') rb t #[a', b', c', d] := r2.set_ 2 _
  have r4 : Blk ((((w.setCell ⟨rb, 0, none⟩ a').setCell ⟨rb, 1, none⟩ b').setCell ⟨rb, 2, none⟩ c').setCell ⟨rb, 3, none⟩ d') rb t #[a', b', c', d'] := r3.set_ 3 _
  have hC : Chg (fun b => b = rb) w ((((w.setCell ⟨rb, 0, none⟩ a').setCell ⟨rb, 1, none⟩ b').setCell ⟨rb, 2, none⟩ c').setCell ⟨rb, 3, none⟩ d') := ((((Chg.refl (fun b => b = rb) w).setCell (p := ⟨rb, 0, none⟩) (.inl rfl) _).setCell (p := ⟨rb, 1, none⟩) (.inl rfl) _).setCell (p := ⟨rb, 2, none⟩) (.inl rfl) _).setCell (p := ⟨rb, 3, none⟩) (.inl rfl) _
  refine ⟨⟨k1.frozen 0, r1.frozen 1, r2.frozen 2, r3.frozen 3⟩, ⟨k1.cell 0, r1.cell 1, r2.cell 2, r3.cell 3⟩, ⟨r4.cell 0, r4.cell 1, r4.cell 2, r4.cell 3⟩, ?_⟩
  exact ⟨D.keep h.rep hC fun b hx hf => h.far (hf ▸ hx), ⟨hC.os.trans h.chg.os, hC.tape.trans h.chg.tape, hC.output.trans h.chg.output, Nat.le_trans h.chg.size hC.size, fun i hi hn => (hC.block i (Nat.lt_of_lt_of_le hi h.chg.size) fun hf => by have := h.ge; omega).trans (h.chg.block i hi hn)⟩, h.new, r4, h.far, h.ge⟩
end
theorem edx_own {X : Nat → Prop} {w : World} {B : Nat} {A : Option Addr} {c n : Nat} {l : List Tr.Ed} (h : w.ownsRow B 146 6 (.slice A n c) n (edcs l)) (hX : ∀ b, (Value.slice A n c).ownBlock = some b → ¬ X b) : EdX X w A c n l := fun u q => by
  have h1 := own_keep (w' := u) h fun b hb hl => q.block b hl (hX b hb)
  exact ⟨own_len h1, own_none h1, own_slW' h1⟩
section
variable {σ : Type} (D : StoI σ)
/-- What change answers: the row of edits is changed, too. -/
def RtW (w : World) (X G : Nat → Prop) (st' : σ) (r : Except Int (Nd.T3 × Int)) (e : Ending) (w' : World) : Prop := ∃ X', D.Rep w' X' st' ∧ Chg (fun b => X b ∨ G b) w w' ∧ (∀ b, X' b → X b ∨ w.heap.size ≤ b) ∧ (match r with
    | .error er => er ≠ 0 ∧ ∃ k h, e = .returned (.tuple #[Tr.rootV k h, .int .i64 er])
    | .ok (k, h) => e = .returned (.tuple #[Tr.rootV k h, .int .i64 0]))
theorem edited_fits {h : Nat} {st : σ} {b : Tr.Br} {eds : List Tr.Ed} {s : σ} {l : List (Tr.Pt h)} {c : Bool} (he : Tr.edited D.S h st b eds = (s, .ok (l, c))) : 0 ≤ b.h ∧ b.h < 6 := by
  have K : ∀ nn s1, Tr.load D.S st b = (s1, .ok nn) → 0 ≤ b.h ∧ b.h < 6 := fun nn s1 hl => by
    have hf := load_fits D (st := st) (b := b) (n := nn) (by rw [hl])
    have h1 := hf.1.h0
    have h2 := hf.1.h6
    have h3 := hf.2.1
    omega
  rcases hl : Tr.load D.S st b with ⟨s1, er | nn⟩
  · cases h <;> (unfold Tr.edited at he; rw [hl] at he; injection he with _ he; cases he)
  · exact K nn s1 hl
theorem change_nil {st : σ} {k : Nd.T3} {h : Int} : Tr.change D.S st k h [] = (st, .ok (k, h)) := by unfold Tr.change; rw [if_pos rfl]
theorem change_err {st s2 : σ} {k : Nd.T3} {h : Int} {eds : List Tr.Ed} {er : Int} (hne : eds ≠ []) (he : Tr.edited D.S h.toNat st (Tr.trunk k h) (Tr.inOrder eds) = (s2, .error er)) : Tr.change D.S st k h eds = (s2, .error er) := by
  unfold Tr.change; rw [if_neg hne, he]
theorem change_no {st s2 : σ} {k : Nd.T3} {h : Int} {eds : List Tr.Ed} {l : List (Tr.Pt h.toNat)} (hne : eds ≠ []) (he : Tr.edited D.S h.toNat st (Tr.trunk k h) (Tr.inOrder eds) = (s2, .ok (l, false))) : Tr.change D.S st k h eds = (s2, .ok (k, h)) := by
  unfold Tr.change; rw [if_neg hne, he]; rfl
theorem change_yes {st s2 : σ} {k : Nd.T3} {h : Int} {eds : List Tr.Ed} {l : List (Tr.Pt h.toNat)} (hne : eds ≠ []) (he : Tr.edited D.S h.toNat st (Tr.trunk k h) (Tr.inOrder eds) = (s2, .ok (l, true))) : Tr.change D.S st k h eds = Tr.plant D.S h.toNat l s2 := by
  unfold Tr.change; rw [if_neg hne, he]; rfl
theorem cells4 {w : World} {xb : Nat} {t : TypeId} {a b c d : Value} (h : Blk w xb t #[a, b, c, d]) : w.cell? ⟨xb, 0, none⟩ = some a ∧ w.cell? ⟨xb, 1, none⟩ = some b ∧ w.cell? ⟨xb, 2, none⟩ = some c ∧ w.cell? ⟨xb, 3, none⟩ = some d := ⟨h.cell 0, h.cell 1, h.cell 2, h.cell 3⟩
set_option maxRecDepth 8000 in
set_option maxHeartbeats 16000000 in
theorem change_any (HIn : InC) {w : World} {B : Nat} {X : Nat → Prop} {st : σ} {k : Nd.T3} {h : Int} {eds : List Tr.Ed} {A : Option Addr} {c n : Nat} (hr : D.Rep w X st) (ho : w.ownsRow B 146 6 (.slice A n c) n (edcs eds)) (hX : ∀ b, (Value.slice A n c).ownBlock = some b → ¬ X b) (hn : eds.length = n) (few : n ≤ 100000) (hkr : Tr.KR k)
    (hpl : ∀ s2 l, Tr.edited D.S h.toNat st (Tr.trunk k h) (Tr.inOrder eds) = (s2, .ok (l, true)) → Tr.PlOk h.toNat l) :
    Calls Try.prog 75 #[D.val, Tr.rootV k h, .slice A n c] w (RtW D w X (fun b => (Value.slice A n c).ownBlock = some b) (Tr.change D.S st k h eds).1 (Tr.change D.S st k h eds).2) := by
  obtain ⟨RR, hRR⟩ : ∃ R, Tr.change D.S st k h eds = R := ⟨_, rfl⟩
  have hc0 := RcG.start hr (fun b => (Value.slice A n c).ownBlock = some b) 66 #[.int .i64 k.1, .int .i64 k.2.1, .int .i64 k.2.2, .int .i64 h]
  obtain ⟨W2, hW2⟩ : ∃ W, w.alloc (.cells #[.int .i64 k.1, .int .i64 k.2.1, .int .i64 k.2.2, .int .i64 h] 66) = W := ⟨_, rfl⟩
  rw [hW2] at hc0
  have hb2 : Below w.heap.size w W2 := by rw [← hW2]; exact below_alloc1 _ _
  have hc1 := hc0.more 66 #[.int .i64 0, .int .i64 0, .int .i64 0, .int .i64 0]
  have hb3 := below_alloc1 W2 (.cells #[.int .i64 0, .int .i64 0, .int .i64 0, .int .i64 0] 66)
  have hc2 := hc0.below hb3
  obtain ⟨W1, hW1⟩ : ∃ W, W2.alloc (.cells #[.int .i64 0, .int .i64 0, .int .i64 0, .int .i64 0] 66) = W := ⟨_, rfl⟩
  rw [hW1] at hc1 hc2 hb3
  have hb1 : Below w.heap.size w W1 := hb2.trans (hb3.mono hb2.size)
  obtain ⟨bb, hbb⟩ : ∃ r, w.heap.size = r := ⟨_, rfl⟩
  obtain ⟨rb, hrb⟩ : ∃ r, bb + 1 = r := ⟨_, rfl⟩
  have hs2 : W2.heap.size = rb := by rw [← hW2, ← hrb, ← hbb]; simp
  rw [hs2] at hc1
  rw [hbb] at hc2
  have ho1 : W1.ownsRow B 146 6 (.slice A n c) n (edcs eds) := own_below ho hb1
  have CB := Lib.hid hc2
  have CR := Lib.hid hc1
  have Ho := Lib.hid ho1
  have HX := Lib.hid hX
  have Hn := Lib.hid hn
  have HG := Lib.hid (show ∀ b, (Value.slice A n c).ownBlock = some b → (((Value.slice A n c).ownBlock = some b ∨ w.heap.size ≤ b) ∧ ¬ X b ∧ b ≠ bb) ∧ ((Value.slice A n c).ownBlock = some b ∨ w.heap.size ≤ b) ∧ ¬ X b ∧ b ≠ rb from fun b hb => by
    have h1 := ho.lt b hb
    exact ⟨⟨.inl hb, hX b hb, by omega⟩, .inl hb, hX b hb, by omega⟩)
  obtain ⟨y0, y1, y2, y3⟩ := cells4 hc2.blk
  rw [hRR]
  unfold Tr.rootV
  by_cases hn0 : n = 0
  · have e0 : ((n : Int) == 0) = true := by rw [hn0]; rfl
    have hnil : eds = [] := List.eq_nil_of_length_eq_zero (hn.trans hn0)
    have hR1 : RR = (st, .ok (k, h)) := by rw [← hRR, hnil]; exact change_nil D
    obtain ⟨j1, j2, j3, j4, b1, b2, b3, b4, ⟨a0, a1, a2, a3⟩, ⟨o0, o1, o2, o3⟩, ⟨x0, x1, x2, x3⟩, S8⟩ := hc1.four (.int .i64 k.1) (.int .i64 k.2.1) (.int .i64 k.2.2) (.int .i64 h)
    have S8 := Lib.hid S8
    have HR1 := Lib.hid hR1
    clear hc0 hb2 hc1 hb3 hc2 hb1 ho1 hr ho hX hn hpl hn0 hnil hR1 hRR
    go_enter Try.func75, Try.ntmps75
    go_wp2_with fail
    rw [HR1.out]
    refine bodyPost_ret (v := .tuple #[Tr.rootV k h, .int .i64 0]) ?_ rfl ⟨X, S8.out.rep, S8.out.chg, S8.out.new, rfl⟩
    simp [results, Try.results75]
    go_simp
    simp [Tr.rootV]
  · have e0 : ((n : Int) == 0) = false := by rw [beq_eq_false_iff_ne]; omega
    have hne : eds ≠ [] := fun e => hn0 (by rw [← hn, e]; rfl)
    obtain ⟨m, hm⟩ : ∃ m, (Tr.inOrder eds).length = m := ⟨_, rfl⟩
    have hmn : m ≤ n := by rw [← hm, ← hn]; exact Tr.inOrder_len eds
    have HTk := Lib.hid (fun u => trunk_any k h u)
    have HIo := Lib.hid (fun (u : World) (hu : Below W1.heap.size W1 u) => by
      have := HIn (own_below Ho.out hu) hn (by omega) few
      rw [hm] at this
      exact this)
    have hEd := fun (u : World) (A' : Option Addr) (c' : Nat) (hr' : D.Rep u X st) (hx' : EdX X u A' c' m (Tr.inOrder eds)) => edited_is D h.toNat (w := u) (X := X) (st := st) (b := Tr.trunk k h) hr' ⟨rfl, hkr⟩ hx' hm (by omega) (Tr.inOrder_ascE eds)
    rcases hed : Tr.edited D.S h.toNat st (Tr.trunk k h) (Tr.inOrder eds) with ⟨s5, er5 | ⟨l5, ch⟩⟩
    · have hR1 : RR = (s5, .error er5) := by rw [← hRR]; exact change_err D hne hed
      rw [hed] at hEd
      unfold EdR at hEd
      dsimp only at hEd
      have HEd := Lib.hid hEd
      have HR1 := Lib.hid hR1
      clear hc0 hb2 hc1 hb3 hc2 hb1 ho1 hr ho hX hn hpl hn0 hne hm hmn hEd hed hR1 hRR
      go_enter Try.func75, Try.ntmps75
      go_wp2_with (first
        | (go_at_call 68; (with_reducible refine (HTk.out _).mono ?_); rintro e w2 ⟨rfl, hb2⟩; (have B2 := Lib.hid hb2); clear hb2)
        | (go_at_call 88; (with_reducible refine (HIo.out w2 B2.out).mono ?_); rintro e w3 ⟨A3, c3, rfl, hC3, ho3⟩; (have CR3 := Lib.hid ((CR.out.below B2.out).other hC3 fun b hb => (HG.out b hb).2)); (have CB3 := Lib.hid ((CB.out.below B2.out).other hC3 fun b hb => (HG.out b hb).1)); (have EX3 := Lib.hid (edx_own ho3 fun b hb hX' => Nat.lt_irrefl _ (Nat.lt_of_lt_of_le (D.lt (CR.out.below B2.out).rep hX') (ho3.lt b hb).1))); clear hC3 ho3)
        | (go_at_call 87; (with_reducible refine (HEd.out w3 A3 c3 CR3.out.rep EX3.out).mono ?_); rintro e w5 ⟨X5, hR5, hS5, hne5, bl, rfl⟩; (have C5 := CR3.out.step hR5 hS5); (obtain ⟨j1, j2, j3, j4, b1, b2, b3, b4, ⟨a0, a1, a2, a3⟩, ⟨o0, o1, o2, o3⟩, ⟨x0, x1, x2, x3⟩, S8⟩ := C5.four (.int .i64 0) (.int .i64 0) (.int .i64 0) (.int .i64 0)); (have S8 := Lib.hid S8); (have Her := Lib.hid hne5); (have zE : ((er5 : Int) != 0) = true := by simpa using hne5); clear C5 hne5 hR5 hS5))
      rw [HR1.out]
      refine bodyPost_ret (v := .tuple #[Tr.rootV (0, 0, 0) 0, .int .i64 er5]) ?_ rfl ⟨X5, S8.out.rep, S8.out.chg, S8.out.new, Her.out, (0, 0, 0), 0, rfl⟩
      simp [results, Try.results75]
      go_simp
      simp [Tr.rootV]
    · rw [hed] at hEd
      unfold EdR at hEd
      dsimp only at hEd
      have hfits := edited_fits D hed
      have hwf := Tr.edited_wf D.S h.toNat (b := Tr.trunk k h) (st := st) (eds := Tr.inOrder eds) (l := l5) (c := ch) rfl (by rw [hed])
      cases ch with
      | false =>
        have hR1 : RR = (s5, .ok (k, h)) := by rw [← hRR]; exact change_no D hne hed
        have HEd := Lib.hid hEd
        have HR1 := Lib.hid hR1
        clear hc0 hb2 hc1 hb3 hc2 hb1 ho1 hr ho hX hn hpl hn0 hne hm hmn hEd hed hR1 hRR hfits hwf
        go_enter Try.func75, Try.ntmps75
        go_wp2_with (first
          | (go_at_call 68; (with_reducible refine (HTk.out _).mono ?_); rintro e w2 ⟨rfl, hb2⟩; (have B2 := Lib.hid hb2); clear hb2)
          | (go_at_call 88; (with_reducible refine (HIo.out w2 B2.out).mono ?_); rintro e w3 ⟨A3, c3, rfl, hC3, ho3⟩; (have CR3 := Lib.hid ((CR.out.below B2.out).other hC3 fun b hb => (HG.out b hb).2)); (have CB3 := Lib.hid ((CB.out.below B2.out).other hC3 fun b hb => (HG.out b hb).1)); (have EX3 := Lib.hid (edx_own ho3 fun b hb hX' => Nat.lt_irrefl _ (Nat.lt_of_lt_of_le (D.lt (CR.out.below B2.out).rep hX') (ho3.lt b hb).1))); clear hC3 ho3)
          | (go_at_call 87; (with_reducible refine (HEd.out w3 A3 c3 CR3.out.rep EX3.out).mono ?_); rintro e w5 ⟨X5, hR5, hS5, A5, c5, rfl, -⟩; (have C5 := CR3.out.step hR5 hS5); (obtain ⟨q0, q1, q2, q3⟩ := cells4 (CB3.out.step hR5 hS5).blk); (obtain ⟨j1, j2, j3, j4, b1, b2, b3, b4, ⟨a0, a1, a2, a3⟩, ⟨o0, o1, o2, o3⟩, ⟨x0, x1, x2, x3⟩, S8⟩ := C5.four (.int .i64 k.1) (.int .i64 k.2.1) (.int .i64 k.2.2) (.int .i64 h)); (have S8 := Lib.hid S8); clear C5 hR5 hS5))
        rw [HR1.out]
        refine bodyPost_ret (v := .tuple #[Tr.rootV k h, .int .i64 0]) ?_ rfl ⟨X5, S8.out.rep, S8.out.chg, S8.out.new, rfl⟩
        simp [results, Try.results75]
        go_simp
        simp [Tr.rootV]
      | true =>
        have hR1 : RR = Tr.plant D.S h.toNat l5 s5 := by rw [← hRR]; exact change_yes D hne hed
        have hh5 : h.toNat ≤ 5 := by have := hfits.2; show h.toNat ≤ 5; simp only [Tr.trunk] at hfits; omega
        have hhz : ((h.toNat : Nat) : Int) = h := by simp only [Tr.trunk] at hfits; omega
        have hwt : Tr.wts l5 ≤ 1000000 := by
          have h8 : 8 ^ (h.toNat + 1) ≤ 8 ^ 6 := Nat.pow_le_pow_right (by decide) (by omega)
          have := hwf.2
          rw [hm] at this
          omega
        obtain ⟨n5, hn5⟩ : ∃ n, l5.length = n := ⟨_, rfl⟩
        have hPl := fun (u : World) (X5 : Nat → Prop) (A5 : Option Addr) (c5 : Nat) (hr5 : D.Rep u X5 s5) (hp5 : PLX X5 u h.toNat l5 A5 c5) => plant_any D h.toNat hr5 hp5 hwf.1 hwt (hpl s5 l5 hed) hh5
        rw [hhz, hn5, ← hR1] at hPl
        rw [hn5] at hEd
        have HPl := Lib.hid hPl
        have HEd := Lib.hid hEd
        clear hc0 hb2 hc1 hb3 hc2 hb1 ho1 hr ho hX hn hpl hn0 hne hm hmn hEd hed hRR hfits hwf hR1 hh5 hhz hwt hPl hn5
        rcases RR with ⟨s6, er6 | ⟨k6, h6⟩⟩
        · unfold RtR at HPl
          dsimp only at HPl
          go_enter Try.func75, Try.ntmps75
          go_wp2_with (first
            | (go_at_call 68; (with_reducible refine (HTk.out _).mono ?_); rintro e w2 ⟨rfl, hb2⟩; (have B2 := Lib.hid hb2); clear hb2)
            | (go_at_call 88; (with_reducible refine (HIo.out w2 B2.out).mono ?_); rintro e w3 ⟨A3, c3, rfl, hC3, ho3⟩; (have CR3 := Lib.hid ((CR.out.below B2.out).other hC3 fun b hb => (HG.out b hb).2)); (have CB3 := Lib.hid ((CB.out.below B2.out).other hC3 fun b hb => (HG.out b hb).1)); (have EX3 := Lib.hid (edx_own ho3 fun b hb hX' => Nat.lt_irrefl _ (Nat.lt_of_lt_of_le (D.lt (CR.out.below B2.out).rep hX') (ho3.lt b hb).1))); clear hC3 ho3)
            | (go_at_call 87; (with_reducible refine (HEd.out w3 A3 c3 CR3.out.rep EX3.out).mono ?_); rintro e w5 ⟨X5, hR5, hS5, A5, c5, rfl, hp5⟩; (have CR5 := Lib.hid (CR3.out.step hR5 hS5)); (obtain ⟨q0, q1, q2, q3⟩ := cells4 (CB3.out.step hR5 hS5).blk); (have PX5 := Lib.hid (show PLX X5 w5 h.toNat l5 A5 c5 from hp5.anti fun b hb => .inl hb)); clear hR5 hS5 hp5)
            | (go_at_call 66; (with_reducible refine (HPl.out w5 X5 A5 c5 CR5.out.rep PX5.out).mono ?_); rintro e w6 ⟨X6, hR6, hS6, hne6, k7, h7, rfl⟩; (have C6 := CR5.out.step hR6 hS6); (obtain ⟨j1, j2, j3, j4, b1, b2, b3, b4, ⟨a0, a1, a2, a3⟩, ⟨o0, o1, o2, o3⟩, ⟨x0, x1, x2, x3⟩, S8⟩ := C6.four (.int .i64 k7.1) (.int .i64 k7.2.1) (.int .i64 k7.2.2) (.int .i64 h7)); (have S8 := Lib.hid S8); (have Her := Lib.hid hne6); (dsimp only [Tr.rootV]); clear C6 hne6 hR6 hS6))
          refine bodyPost_ret (v := .tuple #[Tr.rootV k7 h7, .int .i64 er6]) ?_ rfl ⟨X6, S8.out.rep, S8.out.chg, S8.out.new, Her.out, k7, h7, rfl⟩
          simp [results, Try.results75]
          go_simp
          simp [Tr.rootV]
        · unfold RtR at HPl
          dsimp only at HPl
          go_enter Try.func75, Try.ntmps75
          go_wp2_with (first
            | (go_at_call 68; (with_reducible refine (HTk.out _).mono ?_); rintro e w2 ⟨rfl, hb2⟩; (have B2 := Lib.hid hb2); clear hb2)
            | (go_at_call 88; (with_reducible refine (HIo.out w2 B2.out).mono ?_); rintro e w3 ⟨A3, c3, rfl, hC3, ho3⟩; (have CR3 := Lib.hid ((CR.out.below B2.out).other hC3 fun b hb => (HG.out b hb).2)); (have CB3 := Lib.hid ((CB.out.below B2.out).other hC3 fun b hb => (HG.out b hb).1)); (have EX3 := Lib.hid (edx_own ho3 fun b hb hX' => Nat.lt_irrefl _ (Nat.lt_of_lt_of_le (D.lt (CR.out.below B2.out).rep hX') (ho3.lt b hb).1))); clear hC3 ho3)
            | (go_at_call 87; (with_reducible refine (HEd.out w3 A3 c3 CR3.out.rep EX3.out).mono ?_); rintro e w5 ⟨X5, hR5, hS5, A5, c5, rfl, hp5⟩; (have CR5 := Lib.hid (CR3.out.step hR5 hS5)); (obtain ⟨q0, q1, q2, q3⟩ := cells4 (CB3.out.step hR5 hS5).blk); (have PX5 := Lib.hid (show PLX X5 w5 h.toNat l5 A5 c5 from hp5.anti fun b hb => .inl hb)); clear hR5 hS5 hp5)
            | (go_at_call 66; (with_reducible refine (HPl.out w5 X5 A5 c5 CR5.out.rep PX5.out).mono ?_); rintro e w6 ⟨X6, hR6, hS6, rfl⟩; (have C6 := CR5.out.step hR6 hS6); (obtain ⟨j1, j2, j3, j4, b1, b2, b3, b4, ⟨a0, a1, a2, a3⟩, ⟨o0, o1, o2, o3⟩, ⟨x0, x1, x2, x3⟩, S8⟩ := C6.four (.int .i64 k6.1) (.int .i64 k6.2.1) (.int .i64 k6.2.2) (.int .i64 h6)); (have S8 := Lib.hid S8); (dsimp only [Tr.rootV]); clear C6 hR6 hS6))
          refine bodyPost_ret (v := .tuple #[Tr.rootV k6 h6, .int .i64 0]) ?_ rfl ⟨X6, S8.out.rep, S8.out.chg, S8.out.new, rfl⟩
          simp [results, Try.results75]
          go_simp
          simp [Tr.rootV]
end
end Go.Proofs.Ytlcchefiicalpaa
namespace Go.Proofs.Ytlcchefiicalpaa
open Go.RowKit
namespace Tr
section
open Classical
noncomputable def putP {σ : Type} (S : Sto σ) (st : σ) (k : Nd.T3) (h : Int) (L : List E) : Res σ (Nd.T3 × Int) := if ∀ e ∈ L, EOk e then change S st k h (edPut L) else (st, .error 1)
noncomputable def cutP {σ : Type} (S : Sto σ) (st : σ) (k : Nd.T3) (h : Int) (ks : List Int) : Res σ (Nd.T3 × Int) := if ∀ x ∈ ks, 0 ≤ x ∧ x < 512 then change S st k h (edCut ks) else (st, .error 1)
theorem putP_yes {σ : Type} (S : Sto σ) {st : σ} {k : Nd.T3} {h : Int} {L : List E} (hL : ∀ e ∈ L, EOk e) : putP S st k h L = change S st k h (edPut L) := by unfold putP; rw [if_pos hL]
theorem putP_no {σ : Type} (S : Sto σ) {st : σ} {k : Nd.T3} {h : Int} {L : List E} (hL : ¬ ∀ e ∈ L, EOk e) : putP S st k h L = (st, .error 1) := by unfold putP; rw [if_neg hL]
theorem cutP_yes {σ : Type} (S : Sto σ) {st : σ} {k : Nd.T3} {h : Int} {L : List Int} (hL : ∀ x ∈ L, 0 ≤ x ∧ x < 512) : cutP S st k h L = change S st k h (edCut L) := by unfold cutP; rw [if_pos hL]
theorem cutP_no {σ : Type} (S : Sto σ) {st : σ} {k : Nd.T3} {h : Int} {L : List Int} (hL : ¬ ∀ x ∈ L, 0 ≤ x ∧ x < 512) : cutP S st k h L = (st, .error 1) := by unfold cutP; rw [if_neg hL]
end
end Tr
theorem edit_parts : ∃ i, Try.prog.info? 146 = some i ∧ i.zero = some (.agg #[.int .i64 0, .int .i64 0, .int .i64 0, .int .i64 0, .int .i64 0, .bool false]) ∧ i.size = 6 ∧ i.bytes = 48 := by
  have h : (Try.prog.info? 146).map (fun i => (i.zero, i.size, i.bytes)) = some (some (.agg #[.int .i64 0, .int .i64 0, .int .i64 0, .int .i64 0, .int .i64 0, .bool false]), 6, 48) := by kernel_rfl
  obtain ⟨i, hi, hz⟩ := Option.map_eq_some_iff.1 h
  simp only [Prod.mk.injEq] at hz
  exact ⟨i, hi, hz.1, hz.2.1, hz.2.2⟩
theorem sl_6 {w : World} {x : Tr.Ed} {t : TypeId} : Sl (w.alloc (.cells #[.int .i64 x.x.k, .int .i64 x.x.p.1, .int .i64 x.x.p.2.1, .int .i64 x.x.p.2.2, .int .i64 x.x.g, .bool x.cut] t)) (w.heap.size + 1) (some ⟨w.heap.size, 0, none⟩) (edcs [x]) := .inr ⟨w.heap.size, 0, rfl, by omega, fun i hi => by
  have hi : i < 6 := hi
  have : i = 0 ∨ i = 1 ∨ i = 2 ∨ i = 3 ∨ i = 4 ∨ i = 5 := by omega
  rcases this with rfl | rfl | rfl | rfl | rfl | rfl <;> exact (Blk.new w t _).cell _⟩
theorem own_ed1 {w : World} {B n : Nat} {v : Value} {l : List Tr.Ed} {x : Tr.Ed} (h : w.ownsRow B 146 6 v n (edcs l ++ edcs [x])) : w.ownsRow B 146 6 v n (edcs (l ++ [x])) := by rw [edcs_app]; exact h
theorem cells5 {w : World} {xb : Nat} {t : TypeId} {a b c d e : Value} (h : Blk w xb t #[a, b, c, d, e]) : w.cell? ⟨xb, 0, none⟩ = some a ∧ w.cell? ⟨xb, 1, none⟩ = some b ∧ w.cell? ⟨xb, 2, none⟩ = some c ∧ w.cell? ⟨xb, 3, none⟩ = some d ∧ w.cell? ⟨xb, 4, none⟩ = some e := ⟨h.cell 0, h.cell 1, h.cell 2, h.cell 3, h.cell 4⟩
section
variable {σ : Type} (D : StoI σ)
theorem RcW.new {W0 w : World} {X Xr : Nat → Prop} {st : σ} {rb : Nat} {t : TypeId} {C : Array Value} (h : RcW D W0 X st w Xr rb t C) (t' : TypeId) (C' : Array Value) : RcW D W0 X st (w.alloc (.cells C' t')) Xr w.heap.size t' C' :=
  ⟨D.below h.rep (below_alloc1 _ _), h.stp.below (below_alloc1 _ _), Blk.new _ _ _, D.fresh h.rep, h.stp.chg.size⟩
theorem put_start {w : World} {X : Nat → Prop} {st : σ} (hr : D.Rep w X st) {k : Nd.T3} {h : Int} {W2 W1 : World} {bb rb : Nat} (hW2 : w.alloc (.cells #[.int .i64 k.1, .int .i64 k.2.1, .int .i64 k.2.2, .int .i64 h] 66) = W2) (hW1 : W2.alloc (.cells #[.int .i64 0, .int .i64 0, .int .i64 0, .int .i64 0] 66) = W1) (hbb : w.heap.size = bb) (hrb : bb + 1 = rb) :
    W2.heap.size = rb ∧ Below w.heap.size w W1 ∧ RcW D w X st W1 X bb 66 #[.int .i64 k.1, .int .i64 k.2.1, .int .i64 k.2.2, .int .i64 h] ∧ RcW D w X st W1 X rb 66 #[.int .i64 0, .int .i64 0, .int .i64 0, .int .i64 0] := by
  have hc0 := RcW.start hr 66 #[.int .i64 k.1, .int .i64 k.2.1, .int .i64 k.2.2, .int .i64 h]
  rw [hW2] at hc0
  have hb2 : Below w.heap.size w W2 := by rw [← hW2]; exact below_alloc1 _ _
  have hc1 := RcW.new D hc0 66 #[.int .i64 0, .int .i64 0, .int .i64 0, .int .i64 0]
  have hb3 := below_alloc1 W2 (.cells #[.int .i64 0, .int .i64 0, .int .i64 0, .int .i64 0] 66)
  have hc2 := hc0.below hb3
  rw [hW1] at hc1 hc2 hb3
  have hs2 : W2.heap.size = rb := by rw [← hW2, ← hrb, ← hbb]; simp
  rw [hs2] at hc1
  rw [hbb] at hc2
  exact ⟨hs2, hb2.trans (hb3.mono hb2.size), hc2, hc1⟩
theorem rc_after {w wr w6 : World} {X X6 G : Nat → Prop} {st s6 : σ} {rb : Nat} {t : TypeId} {C : Array Value} (h : RcW D w X st wr X rb t C) (hr : D.Rep w6 X6 s6) (hc : Chg (fun b => X b ∨ G b) wr w6) (hn : ∀ b, X6 b → X b ∨ wr.heap.size ≤ b) (hG : ∀ b, G b → w.heap.size ≤ b ∧ b ≠ rb) : RcW D w X s6 w6 X6 rb t C := by
  have hs := h.stp.chg.size
  have hlt := h.blk.lt
  exact ⟨hr, ⟨⟨hc.os.trans h.stp.chg.os, hc.tape.trans h.stp.chg.tape, hc.output.trans h.stp.chg.output, Nat.le_trans hs hc.size, fun i hi hX => (hc.block i (Nat.lt_of_lt_of_le hi hs) fun hb => hb.elim hX fun hg => by have := (hG i hg).1; omega).trans (h.stp.chg.block i hi hX)⟩, fun b hb => (hn b hb).imp id fun hb => Nat.le_trans hs hb⟩,
    h.blk.keep (hc.block rb hlt fun hb => hb.elim h.far fun hg => (hG rb hg).2 rfl), fun hx => (hn rb hx).elim h.far fun hx => by omega, h.ge⟩
set_option maxRecDepth 8000 in
set_option maxHeartbeats 16000000 in
theorem put_any (HIn : InC) {w : World} {X : Nat → Prop} {st : σ} {k : Nd.T3} {h : Int} {L : List Tr.E} {A : Option Addr} {c n : Nat} (hr : D.Rep w X st) (hl : SlC w w.heap.size A c n (evs L)) (hn : L.length = n) (few : n ≤ 100000) (hkr : Tr.KR k)
    (hpl : (∀ e ∈ L, Tr.EOk e) → ∀ s2 l, Tr.edited D.S h.toNat st (Tr.trunk k h) (Tr.inOrder (Tr.edPut L)) = (s2, .ok (l, true)) → Tr.PlOk h.toNat l) :
    Calls Try.prog 39 #[D.val, Tr.rootV k h, .slice A n c] w (RtR D w X (Tr.putP D.S st k h L).1 (Tr.putP D.S st k h L).2) := by
  obtain ⟨i0, hi0, hz0, hs0, hb0⟩ := edit_parts
  obtain ⟨RR, hRR⟩ : ∃ R, Tr.putP D.S st k h L = R := ⟨_, rfl⟩
  obtain ⟨W2, hW2⟩ : ∃ W, w.alloc (.cells #[.int .i64 k.1, .int .i64 k.2.1, .int .i64 k.2.2, .int .i64 h] 66) = W := ⟨_, rfl⟩
  obtain ⟨W1, hW1⟩ : ∃ W, W2.alloc (.cells #[.int .i64 0, .int .i64 0, .int .i64 0, .int .i64 0] 66) = W := ⟨_, rfl⟩
  obtain ⟨bb, hbb⟩ : ∃ r, w.heap.size = r := ⟨_, rfl⟩
  obtain ⟨rb, hrb⟩ : ∃ r, bb + 1 = r := ⟨_, rfl⟩
  obtain ⟨hs2, hb1, hcb, hcr⟩ := put_start D hr hW2 hW1 hbb hrb
  have CB := Lib.hid hcb
  have CR := Lib.hid hcr
  have HB1 := Lib.hid hb1
  have HL := Lib.hid hl
  have Hn := Lib.hid hn
  have HKR := Lib.hid hkr
  have Hlt := Lib.hid (show ∀ b, X b → b < w.heap.size from fun b hb => D.lt hr hb)
  have HRn := Lib.hid (show ∀ i, i < n → ¬ Tr.EOk (L.getD i Tr.z) → RR = (st, .error 1) from fun i hi hb => by rw [← hRR]; exact Tr.putP_no D.S fun hall => hb (hall _ (by rw [List.getD_eq_getElem?_getD, List.getElem?_eq_getElem (by rw [hn]; exact hi)]; exact List.getElem_mem _)))
  have HRy := Lib.hid (show (∀ e ∈ L, Tr.EOk e) → RR = Tr.change D.S st k h (Tr.edPut L) from fun hy => by rw [← hRR]; exact Tr.putP_yes D.S hy)
  have HPl := Lib.hid hpl
  rw [hRR]
  unfold Tr.rootV
  have hv : D.val = .iface D.t D.v := rfl
  rw [hv]
  clear hr hl hn hpl hRR hcb hcr hb1 hv
  go_enter Try.func39, Try.ntmps39
  go_wp2_with fail
  clear hW2 hW1 hbb hrb hs2
  go_loopw [8, 16] (fun v8 v16 wr => ∃ i : Nat, v16 = .int .i64 (i : Int) ∧ i ≤ n ∧ wr.ownsRow W1.heap.size 146 6 v8 i (edcs (Tr.edPut (L.take i))) ∧ Below W1.heap.size W1 wr ∧ ∀ e ∈ L.take i, Tr.EOk e) (fun _ v16 _ => n - (intOf v16).toNat)
  case atStart => exact ⟨0, rfl, Nat.zero_le _, World.ownsRow_nil _ _ _ _, Below.refl _ _, fun e he => by simp at he⟩
  case round =>
    obtain ⟨i, rfl, hi, ho, hb, hok⟩ := hrel
    obtain ⟨O, co, rfl⟩ := own_slice ho
    have HO := Lib.hid ho
    have HB := Lib.hid hb
    have HOk := Lib.hid hok
    by_cases hik : i < n
    · have y0 : decide ((i : Int) < (n : Int)) = true := by rw [decide_eq_true_eq]; omega
      have y0' : decide (i < n) = true := by rw [decide_eq_true_eq]; exact hik
      have y1 : (i : Int) < (n : Int) := by omega
      have MB := Lib.hid (show i + 1 ≤ maxLen ∧ (i + 1) * 48 ≤ 140737488355328 from ⟨by unfold maxLen; omega, by omega⟩)
      have Wi : wrap64 ((i : Int) + 1) = (i : Int) + 1 := by simp only [wrap64]; omega
      have hil : i < L.length := by rw [Hn.out]; exact hik
      have Hik := Lib.hid hik
      obtain ⟨lb, lo', rfl, hlb, c0, c1, c2, c3, c4⟩ := (HL.out.below (HB1.out.trans (hb.mono HB1.out.size))).ev hil
      obtain ⟨e, he⟩ : ∃ e, e = L.getD i Tr.z := ⟨_, rfl⟩
      rw [← he] at c0 c1 c2 c3 c4
      have hge : L[i]? = some e := by rw [he, List.getD_eq_getElem?_getD, List.getElem?_eq_getElem hil]; rfl
      have Nx := Lib.hid (show L.take (i + 1) = L.take i ++ [e] by rw [List.take_add_one, hge]; rfl)
      have HRi := Lib.hid (show ¬ Tr.EOk e → RR = (st, .error 1) from fun hno => HRn.out i hik (by rw [← he]; exact hno))
      obtain ⟨xq, hxq⟩ : ∃ x, wr.heap.size = x := ⟨_, rfl⟩
      obtain ⟨ek, ⟨e1, e2, e3⟩, eg⟩ := e
      dsimp only at c0 c1 c2 c3 c4
      clear he hge hil hik hi ho hb hok hlb
      go_upto_region 7 with fail
      obtain ⟨Wx, hWx⟩ : ∃ W, wr.alloc (.cells #[.int .i64 ek, .int .i64 e1, .int .i64 e2, .int .i64 e3, .int .i64 eg] 84) = W := ⟨_, rfl⟩
      rw [hWx]
      have bx : Blk Wx xq 84 #[.int .i64 ek, .int .i64 e1, .int .i64 e2, .int .i64 e3, .int .i64 eg] := by rw [← hWx, ← hxq]; exact Blk.new _ _ _
      have Bx := Lib.hid bx
      have HBx := Lib.hid (show Below wr.heap.size wr Wx by rw [← hWx]; exact below_alloc1 _ _)
      obtain ⟨d0, d1, d2, d3, d4⟩ := cells5 bx
      clear hWx hxq bx c0 c1 c2 c3 c4
      by_cases hok1 : Tr.EOk ⟨ek, (e1, e2, e3), eg⟩
      · have HM := maystand_any ⟨ek, (e1, e2, e3), eg⟩ Wx true ⟨fun _ => hok1, fun _ => rfl⟩
        dsimp only [ev, evv] at HM
        have Hok1 := Lib.hid hok1
        clear hok1
        go_wp2_with (first
          | (go_at_call 74; (with_reducible refine HM.mono ?_); rintro r w6 ⟨rfl, hb6⟩; (obtain ⟨f0, f1, f2, f3, f4⟩ := cells5 (Bx.out.keep (hb6.block xq Bx.out.lt))); (have B6 := Lib.hid (show Below wr.heap.size wr w6 from HBx.out.trans (hb6.mono HBx.out.size))); clear hb6)
          | (at_builtin; refine wpList_append_sls (base := W1.heap.size) _ rfl (.tmp 24) (.tmp 27) _ rfl Try.underlying143 hi0 hz0 hs0 hb0 rfl (by decide) rfl (own_below HO.out (B6.out.trans ((below_alloc1 w6 _).mono B6.out.size))) (m := 1) (news := edcs [⟨⟨ek, (e1, e2, e3), eg⟩, false⟩]) rfl rfl (by simp) (Nat.le_refl _) sl_6 (edcs_one _) MB.out.1 MB.out.2 (Nat.le_trans HB.out.size (B6.out.trans ((below_alloc1 w6 _).mono B6.out.size)).size) ?_; intro v7 w7 h1 h2 h3; (have N7 := Lib.hid (show w7.ownsRow W1.heap.size 146 6 v7 (i + 1) (edcs (Tr.edPut (L.take (i + 1)))) ∧ Below W1.heap.size W1 w7 from ⟨by rw [Nx.out, Tr.edPut, List.map_append]; exact own_ed1 h1, (HB.out.trans ((B6.out.trans ((below_alloc1 w6 _).mono B6.out.size)).mono HB.out.size)).grown h2 (Nat.le_trans HB.out.size (B6.out.trans ((below_alloc1 w6 _).mono B6.out.size)).size) fun b hb => (HO.out.lt b hb).1⟩)); clear h1 h2 h3))
        go_roundw
        case rel => exact ⟨i + 1, by go_num, Hik.out, N7.out.1, N7.out.2, fun x hx => by
          rw [Nx.out] at hx
          rcases List.mem_append.1 hx with hx | hx
          · exact HOk.out x hx
          · rw [List.mem_singleton] at hx; exact hx ▸ Hok1.out⟩
        case measure => exact meas_up Hik.out
      · have HM := maystand_any ⟨ek, (e1, e2, e3), eg⟩ Wx false ⟨fun h => (by cases h), fun h => absurd h hok1⟩
        dsimp only [ev, evv] at HM
        have HF := Lib.hid (HRi.out hok1)
        clear hok1
        go_wp2_with (go_at_call 74; (with_reducible refine HM.mono ?_); rintro r w6 ⟨rfl, hb6⟩; (have C6 := (((CR.out.below HB.out).below HBx.out).below hb6)); (obtain ⟨j1, j2, j3, j4, b1, b2, b3, b4, ⟨a0, a1, a2, a3⟩, ⟨o0, o1, o2, o3⟩, ⟨x0, x1, x2, x3⟩, S8⟩ := C6.four (.int .i64 0) (.int .i64 0) (.int .i64 0) (.int .i64 0)); (have S8 := Lib.hid S8); clear C6 hb6)
        rw [HF.out]
        refine bodyPost_ret (v := .tuple #[Tr.rootV (0, 0, 0) 0, .int .i64 1]) ?_ rfl ⟨X, S8.out.rep, S8.out.stp, (by decide), (0, 0, 0), 0, rfl⟩
        simp [results, Try.results39]
        go_simp
        simp [Tr.rootV]
    · obtain rfl : i = n := by omega
      have y0 : decide ((i : Int) < (i : Int)) = false := by rw [decide_eq_false_iff_not]; omega
      have y0' : decide (i < i) = false := by rw [decide_eq_false_iff_not]; omega
      have hall : L.take i = L := List.take_of_length_le (by rw [Hn.out]; exact Nat.le_refl _)
      rw [hall] at ho hok
      have CB2 := Lib.hid (CB.out.below hb)
      have CR2 := Lib.hid (CR.out.below hb)
      obtain ⟨y2, y3, y4, y5⟩ := cells4 CB2.out.blk
      have HF := HRy.out hok
      have HCh := change_any D HIn (k := k) (h := h) (eds := Tr.edPut L) CR2.out.rep ho (fun b hb hX => Nat.lt_irrefl _ (Nat.lt_of_lt_of_le (Hlt.out b hX) (Nat.le_trans HB1.out.size (ho.lt b hb).1))) ((List.length_map ..).trans Hn.out) few HKR.out (HPl.out hok)
      rw [← HF] at HCh
      unfold Tr.rootV StoI.val at HCh
      have HCh0 := Lib.hid HCh
      have HGb := Lib.hid (show ∀ b, (Value.slice O i co).ownBlock = some b → w.heap.size ≤ b ∧ b ≠ rb from fun b hb => by have h1 := (ho.lt b hb).1; have h2 := HB1.out.size; have h3 := CR.out.blk.lt; exact ⟨by omega, by omega⟩)
      clear hall hik hi ho hb hok HF HCh HRy HRn HPl
      rcases RR with ⟨s6, er6 | ⟨k6, h6⟩⟩
      · unfold RtW at HCh0
        dsimp only at HCh0
        go_wp2_with (go_at_call 75; (with_reducible refine HCh0.out.mono ?_); rintro e w6 ⟨X6, hR6, hS6, hN6, hne6, k7, h7, rfl⟩; (have C6 := rc_after D CR2.out hR6 hS6 hN6 (fun b hb => HGb.out b hb)); (obtain ⟨j1, j2, j3, j4, b1, b2, b3, b4, ⟨a0, a1, a2, a3⟩, ⟨o0, o1, o2, o3⟩, ⟨x0, x1, x2, x3⟩, S8⟩ := C6.four (.int .i64 k7.1) (.int .i64 k7.2.1) (.int .i64 k7.2.2) (.int .i64 h7)); (have S8 := Lib.hid S8); (have Her := Lib.hid hne6); (dsimp only [Tr.rootV]); clear C6 hne6 hR6 hS6)
        refine bodyPost_ret (v := .tuple #[Tr.rootV k7 h7, .int .i64 er6]) ?_ rfl ⟨X6, S8.out.rep, S8.out.stp, Her.out, k7, h7, rfl⟩
        simp [results, Try.results39]
        go_simp
        simp [Tr.rootV]
      · unfold RtW at HCh0
        dsimp only at HCh0
        go_wp2_with (go_at_call 75; (with_reducible refine HCh0.out.mono ?_); rintro e w6 ⟨X6, hR6, hS6, hN6, rfl⟩; (have C6 := rc_after D CR2.out hR6 hS6 hN6 (fun b hb => HGb.out b hb)); (obtain ⟨j1, j2, j3, j4, b1, b2, b3, b4, ⟨a0, a1, a2, a3⟩, ⟨o0, o1, o2, o3⟩, ⟨x0, x1, x2, x3⟩, S8⟩ := C6.four (.int .i64 k6.1) (.int .i64 k6.2.1) (.int .i64 k6.2.2) (.int .i64 h6)); (have S8 := Lib.hid S8); (dsimp only [Tr.rootV]); clear C6 hR6 hS6)
        refine bodyPost_ret (v := .tuple #[Tr.rootV k6 h6, .int .i64 0]) ?_ rfl ⟨X6, S8.out.rep, S8.out.stp, rfl⟩
        simp [results, Try.results39]
        go_simp
        simp [Tr.rootV]
set_option maxRecDepth 8000 in
set_option maxHeartbeats 16000000 in
theorem cut_any (HIn : InC) {w : World} {X : Nat → Prop} {st : σ} {k : Nd.T3} {h : Int} {ks : List Int} {A : Option Addr} {c n : Nat} (hr : D.Rep w X st) (hl : SlC w w.heap.size A c n (ivs ks)) (hn : ks.length = n) (few : n ≤ 100000) (hkr : Tr.KR k)
    (hpl : (∀ x ∈ ks, 0 ≤ x ∧ x < 512) → ∀ s2 l, Tr.edited D.S h.toNat st (Tr.trunk k h) (Tr.inOrder (Tr.edCut ks)) = (s2, .ok (l, true)) → Tr.PlOk h.toNat l) :
    Calls Try.prog 40 #[D.val, Tr.rootV k h, .slice A n c] w (RtR D w X (Tr.cutP D.S st k h ks).1 (Tr.cutP D.S st k h ks).2) := by
  obtain ⟨i0, hi0, hz0, hs0, hb0⟩ := edit_parts
  obtain ⟨RR, hRR⟩ : ∃ R, Tr.cutP D.S st k h ks = R := ⟨_, rfl⟩
  obtain ⟨W2, hW2⟩ : ∃ W, w.alloc (.cells #[.int .i64 k.1, .int .i64 k.2.1, .int .i64 k.2.2, .int .i64 h] 66) = W := ⟨_, rfl⟩
  obtain ⟨W1, hW1⟩ : ∃ W, W2.alloc (.cells #[.int .i64 0, .int .i64 0, .int .i64 0, .int .i64 0] 66) = W := ⟨_, rfl⟩
  obtain ⟨bb, hbb⟩ : ∃ r, w.heap.size = r := ⟨_, rfl⟩
  obtain ⟨rb, hrb⟩ : ∃ r, bb + 1 = r := ⟨_, rfl⟩
  obtain ⟨hs2, hb1, hcb, hcr⟩ := put_start D hr hW2 hW1 hbb hrb
  have CB := Lib.hid hcb
  have CR := Lib.hid hcr
  have HB1 := Lib.hid hb1
  have HL := Lib.hid hl
  have Hn := Lib.hid hn
  have HKR := Lib.hid hkr
  have Hlt := Lib.hid (show ∀ b, X b → b < w.heap.size from fun b hb => D.lt hr hb)
  have HRn := Lib.hid (show ∀ i, i < n → ¬ (0 ≤ Nd.at_ ks i ∧ Nd.at_ ks i < 512) → RR = (st, .error 1) from fun i hi hb => by rw [← hRR]; exact Tr.cutP_no D.S fun hall => hb (hall _ (by unfold Nd.at_; rw [List.getD_eq_getElem?_getD, List.getElem?_eq_getElem (by rw [hn]; exact hi)]; exact List.getElem_mem _)))
  have HRy := Lib.hid (show (∀ x ∈ ks, 0 ≤ x ∧ x < 512) → RR = Tr.change D.S st k h (Tr.edCut ks) from fun hy => by rw [← hRR]; exact Tr.cutP_yes D.S hy)
  have HPl := Lib.hid hpl
  rw [hRR]
  unfold Tr.rootV
  have hv : D.val = .iface D.t D.v := rfl
  rw [hv]
  clear hr hl hn hpl hRR hcb hcr hb1 hv
  go_enter Try.func40, Try.ntmps40
  go_wp2_with fail
  clear hW2 hW1 hbb hrb hs2
  go_loopw [8, 16] (fun v8 v16 wr => ∃ i : Nat, v16 = .int .i64 (i : Int) ∧ i ≤ n ∧ wr.ownsRow W1.heap.size 146 6 v8 i (edcs (Tr.edCut (ks.take i))) ∧ Below W1.heap.size W1 wr ∧ ∀ x ∈ ks.take i, 0 ≤ x ∧ x < 512) (fun _ v16 _ => n - (intOf v16).toNat)
  case atStart => exact ⟨0, rfl, Nat.zero_le _, World.ownsRow_nil _ _ _ _, Below.refl _ _, fun e he => by simp at he⟩
  case round =>
    obtain ⟨i, rfl, hi, ho, hb, hok⟩ := hrel
    obtain ⟨O, co, rfl⟩ := own_slice ho
    have HO := Lib.hid ho
    have HB := Lib.hid hb
    have HOk := Lib.hid hok
    by_cases hik : i < n
    · have y0 : decide ((i : Int) < (n : Int)) = true := by rw [decide_eq_true_eq]; omega
      have y0' : decide (i < n) = true := by rw [decide_eq_true_eq]; exact hik
      have y1 : (i : Int) < (n : Int) := by omega
      have MB := Lib.hid (show i + 1 ≤ maxLen ∧ (i + 1) * 48 ≤ 140737488355328 from ⟨by unfold maxLen; omega, by omega⟩)
      have Wi : wrap64 ((i : Int) + 1) = (i : Int) + 1 := by simp only [wrap64]; omega
      have hil : i < ks.length := by rw [Hn.out]; exact hik
      have Hik := Lib.hid hik
      obtain ⟨lb, lo', rfl, hlb, c0⟩ := (HL.out.below (HB1.out.trans (hb.mono HB1.out.size))).int hil
      obtain ⟨x, hx⟩ : ∃ e, e = Nd.at_ ks i := ⟨_, rfl⟩
      rw [← hx] at c0
      have hge : ks[i]? = some x := by rw [hx, Nd.at_, List.getD_eq_getElem?_getD, List.getElem?_eq_getElem hil]; rfl
      have Nx := Lib.hid (show ks.take (i + 1) = ks.take i ++ [x] by rw [List.take_add_one, hge]; rfl)
      have HRi := Lib.hid (show ¬ (0 ≤ x ∧ x < 512) → RR = (st, .error 1) from fun hno => HRn.out i hik (by rw [← hx]; exact hno))
      clear hx hge hil hik hi ho hb hok hlb
      by_cases hok1 : 0 ≤ x ∧ x < 512
      · have HM := Lib.hid (fun u => iskey_any x true (by rw [decide_eq_true_eq]; exact hok1) u)
        have Hok1 := Lib.hid hok1
        have B6 := Lib.hid (show ∀ o, Below wr.heap.size wr (wr.alloc o) from fun o => below_alloc1 wr o)
        clear hok1
        go_wp2_with (first
          | (go_at_call 71; (with_reducible refine (HM.out _).mono ?_); rintro r w6 ⟨rfl, rfl⟩)
          | (at_builtin; refine wpList_append_sls (base := W1.heap.size) _ rfl (.tmp 24) (.tmp 28) _ rfl Try.underlying143 hi0 hz0 hs0 hb0 rfl (by decide) rfl (own_below HO.out (B6.out _)) (m := 1) (news := edcs [⟨⟨x, (0, 0, 0), 0⟩, true⟩]) rfl rfl (by simp) (Nat.le_refl _) sl_6 (edcs_one _) MB.out.1 MB.out.2 (Nat.le_trans HB.out.size (B6.out _).size) ?_; intro v7 w7 h1 h2 h3; (have N7 := Lib.hid (show w7.ownsRow W1.heap.size 146 6 v7 (i + 1) (edcs (Tr.edCut (ks.take (i + 1)))) ∧ Below W1.heap.size W1 w7 from ⟨by rw [Nx.out, Tr.edCut, List.map_append]; exact own_ed1 h1, (HB.out.trans ((B6.out _).mono HB.out.size)).grown h2 (Nat.le_trans HB.out.size (B6.out _).size) fun b hb => (HO.out.lt b hb).1⟩)); clear h1 h2 h3))
        go_roundw
        case rel => exact ⟨i + 1, by go_num, Hik.out, N7.out.1, N7.out.2, fun y hy => by
          rw [Nx.out] at hy
          rcases List.mem_append.1 hy with hy | hy
          · exact HOk.out y hy
          · rw [List.mem_singleton] at hy; exact hy ▸ Hok1.out⟩
        case measure => exact meas_up Hik.out
      · have HM := Lib.hid (fun u => iskey_any x false (by rw [decide_eq_false_iff_not]; exact hok1) u)
        have HF := Lib.hid (HRi.out hok1)
        obtain ⟨j1, j2, j3, j4, b1, b2, b3, b4, ⟨a0, a1, a2, a3⟩, ⟨o0, o1, o2, o3⟩, ⟨x0, x1, x2, x3⟩, S8⟩ := (CR.out.below HB.out).four (.int .i64 0) (.int .i64 0) (.int .i64 0) (.int .i64 0)
        have S8 := Lib.hid S8
        clear hok1
        go_wp2_with (go_at_call 71; (with_reducible refine (HM.out _).mono ?_); rintro r w6 ⟨rfl, rfl⟩)
        rw [HF.out]
        refine bodyPost_ret (v := .tuple #[Tr.rootV (0, 0, 0) 0, .int .i64 1]) ?_ rfl ⟨X, S8.out.rep, S8.out.stp, (by decide), (0, 0, 0), 0, rfl⟩
        simp [results, Try.results40]
        go_simp
        simp [Tr.rootV]
    · obtain rfl : i = n := by omega
      have y0 : decide ((i : Int) < (i : Int)) = false := by rw [decide_eq_false_iff_not]; omega
      have y0' : decide (i < i) = false := by rw [decide_eq_false_iff_not]; omega
      have hall : ks.take i = ks := List.take_of_length_le (by rw [Hn.out]; exact Nat.le_refl _)
      rw [hall] at ho hok
      have CB2 := Lib.hid (CB.out.below hb)
      have CR2 := Lib.hid (CR.out.below hb)
      obtain ⟨y2, y3, y4, y5⟩ := cells4 CB2.out.blk
      have HF := HRy.out hok
      have HCh := change_any D HIn (k := k) (h := h) (eds := Tr.edCut ks) CR2.out.rep ho (fun b hb hX => Nat.lt_irrefl _ (Nat.lt_of_lt_of_le (Hlt.out b hX) (Nat.le_trans HB1.out.size (ho.lt b hb).1))) ((List.length_map ..).trans Hn.out) few HKR.out (HPl.out hok)
      rw [← HF] at HCh
      unfold Tr.rootV StoI.val at HCh
      have HCh0 := Lib.hid HCh
      have HGb := Lib.hid (show ∀ b, (Value.slice O i co).ownBlock = some b → w.heap.size ≤ b ∧ b ≠ rb from fun b hb => by have h1 := (ho.lt b hb).1; have h2 := HB1.out.size; have h3 := CR.out.blk.lt; exact ⟨by omega, by omega⟩)
      clear hall hik hi ho hb hok HF HCh HRy HRn HPl
      rcases RR with ⟨s6, er6 | ⟨k6, h6⟩⟩
      · unfold RtW at HCh0
        dsimp only at HCh0
        go_wp2_with (go_at_call 75; (with_reducible refine HCh0.out.mono ?_); rintro e w6 ⟨X6, hR6, hS6, hN6, hne6, k7, h7, rfl⟩; (have C6 := rc_after D CR2.out hR6 hS6 hN6 (fun b hb => HGb.out b hb)); (obtain ⟨j1, j2, j3, j4, b1, b2, b3, b4, ⟨a0, a1, a2, a3⟩, ⟨o0, o1, o2, o3⟩, ⟨x0, x1, x2, x3⟩, S8⟩ := C6.four (.int .i64 k7.1) (.int .i64 k7.2.1) (.int .i64 k7.2.2) (.int .i64 h7)); (have S8 := Lib.hid S8); (have Her := Lib.hid hne6); (dsimp only [Tr.rootV]); clear C6 hne6 hR6 hS6)
        refine bodyPost_ret (v := .tuple #[Tr.rootV k7 h7, .int .i64 er6]) ?_ rfl ⟨X6, S8.out.rep, S8.out.stp, Her.out, k7, h7, rfl⟩
        simp [results, Try.results40]
        go_simp
        simp [Tr.rootV]
      · unfold RtW at HCh0
        dsimp only at HCh0
        go_wp2_with (go_at_call 75; (with_reducible refine HCh0.out.mono ?_); rintro e w6 ⟨X6, hR6, hS6, hN6, rfl⟩; (have C6 := rc_after D CR2.out hR6 hS6 hN6 (fun b hb => HGb.out b hb)); (obtain ⟨j1, j2, j3, j4, b1, b2, b3, b4, ⟨a0, a1, a2, a3⟩, ⟨o0, o1, o2, o3⟩, ⟨x0, x1, x2, x3⟩, S8⟩ := C6.four (.int .i64 k6.1) (.int .i64 k6.2.1) (.int .i64 k6.2.2) (.int .i64 h6)); (have S8 := Lib.hid S8); (dsimp only [Tr.rootV]); clear C6 hR6 hS6)
        refine bodyPost_ret (v := .tuple #[Tr.rootV k6 h6, .int .i64 0]) ?_ rfl ⟨X6, S8.out.rep, S8.out.stp, rfl⟩
        simp [results, Try.results40]
        go_simp
        simp [Tr.rootV]
set_option maxRecDepth 8000 in
set_option maxHeartbeats 16000000 in
theorem empty_any {w : World} {X : Nat → Prop} {st : σ} (hr : D.Rep w X st) : Calls Try.prog 32 #[D.val] w (RtR D w X (Tr.plant D.S 0 [] st).1 (Tr.plant D.S 0 [] st).2) := by
  obtain ⟨W1, hW1⟩ : ∃ W, w.alloc (.cells #[.int .i64 0, .int .i64 0, .int .i64 0, .int .i64 0] 66) = W := ⟨_, rfl⟩
  obtain ⟨rb, hrb⟩ : ∃ r, w.heap.size = r := ⟨_, rfl⟩
  have hc := RcW.start hr 66 #[.int .i64 0, .int .i64 0, .int .i64 0, .int .i64 0]
  rw [hW1, hrb] at hc
  have CR := Lib.hid hc
  have HP0 := plant_any D 0 (l := []) (A := none) (c := 0) hc.rep (fun u _ => ⟨[], SlC.none_ _ _, PRs.nil _ _⟩) Tr.Wfs.nil (Nat.zero_le _) (Nat.zero_le _) (Nat.zero_le _)
  unfold StoI.val at HP0
  have HP := Lib.hid (show Calls Try.prog 66 #[.iface D.t D.v, .slice none 0 0, .int .i64 0] W1 (RtR D W1 X (Tr.plant D.S 0 [] st).1 (Tr.plant D.S 0 [] st).2) from HP0)
  have hv : D.val = .iface D.t D.v := rfl
  rw [hv]
  generalize Tr.plant D.S 0 [] st = RR at HP ⊢
  clear hr hc HP0 hv
  rcases RR with ⟨s6, er6 | ⟨k6, h6⟩⟩
  · unfold RtR at HP
    dsimp only at HP
    go_enter Try.func32, Try.ntmps32
    go_wp2_with (go_at_call 66; (with_reducible refine HP.out.mono ?_); rintro e w6 ⟨X6, hR6, hS6, hne6, k7, h7, rfl⟩; (have C6 := CR.out.step hR6 hS6); (obtain ⟨j1, j2, j3, j4, b1, b2, b3, b4, ⟨a0, a1, a2, a3⟩, ⟨o0, o1, o2, o3⟩, ⟨x0, x1, x2, x3⟩, S8⟩ := C6.four (.int .i64 k7.1) (.int .i64 k7.2.1) (.int .i64 k7.2.2) (.int .i64 h7)); (have S8 := Lib.hid S8); (have Her := Lib.hid hne6); (dsimp only [Tr.rootV]); clear C6 hne6 hR6 hS6)
    refine bodyPost_ret (v := .tuple #[Tr.rootV k7 h7, .int .i64 er6]) ?_ rfl ⟨X6, S8.out.rep, S8.out.stp, Her.out, k7, h7, rfl⟩
    simp [results, Try.results32]
    go_simp
    simp [Tr.rootV]
  · unfold RtR at HP
    dsimp only at HP
    go_enter Try.func32, Try.ntmps32
    go_wp2_with (go_at_call 66; (with_reducible refine HP.out.mono ?_); rintro e w6 ⟨X6, hR6, hS6, rfl⟩; (have C6 := CR.out.step hR6 hS6); (obtain ⟨j1, j2, j3, j4, b1, b2, b3, b4, ⟨a0, a1, a2, a3⟩, ⟨o0, o1, o2, o3⟩, ⟨x0, x1, x2, x3⟩, S8⟩ := C6.four (.int .i64 k6.1) (.int .i64 k6.2.1) (.int .i64 k6.2.2) (.int .i64 h6)); (have S8 := Lib.hid S8); (dsimp only [Tr.rootV]); clear C6 hR6 hS6)
    refine bodyPost_ret (v := .tuple #[Tr.rootV k6 h6, .int .i64 0]) ?_ rfl ⟨X6, S8.out.rep, S8.out.stp, rfl⟩
    simp [results, Try.results32]
    go_simp
    simp [Tr.rootV]
end
end Go.Proofs.Ytlcchefiicalpaa
