/- The program's Find. A store of nodes as a walk sees it: an interface value with two methods; what stays while it is used. The document's map: Get. The document's map: Cut. The statements' Entries. -/
import Derived.Test.YtlcchefiicalpaaZwc
import Derived.Test.YtlcchefiicalpaaZwd
import Derived.Test.YtlcchefiicalpaaZwe
import Derived.Test.YtlcchefiicalpaaZwg
import Derived.Test.YtlcchefiicalpaaZwh
import Derived.Deep.RegionHeldLaw
import Derived.BigQuiet
import Derived.BigRegion
import Derived.Deep.DeepCutAuto
namespace Go.Proofs.Ytlcchefiicalpaa
open Go.RowKit
set_option maxRecDepth 8000 in
set_option maxHeartbeats 8000000 in
theorem find_any {w : World} {v : Value} {n : Nd.N} (h : NdAt w w.heap.size v n) (key : Int) (hl : n.ks.length ≤ 1000) : Calls Try.prog 28 #[v, .int .i64 key] w fun e w' => e = .returned (.tuple #[.int .i64 ((Nd.find n.ks key).1 : Int), .bool (Nd.find n.ks key).2]) ∧ Below w.heap.size w w' := by
  obtain ⟨A1, c1, A2, c2, A3, c3, A4, c4, rfl, hf⟩ := h
  obtain ⟨W, hW⟩ : ∃ W, w.alloc (.cells #[.int .i64 n.h, .slice A1 n.ks.length c1, .slice A2 n.ps.length c2, .slice A3 n.gs.length c3, .slice A4 n.cs.length c4] 35) = W := ⟨_, rfl⟩
  obtain ⟨bx, hbl⟩ := nd_box hW
  have HF := Lib.hid (hf.ks.below hbl)
  have HB := Lib.hid hbl
  obtain ⟨R, hR⟩ : ∃ R, R = Nd.find n.ks key := ⟨_, rfl⟩
  rw [← hR]
  have HR := Lib.hid hR
  clear hf hR hbl
  obtain ⟨ks, hks⟩ : ∃ ks, ks = n.ks := ⟨_, rfl⟩
  rw [← hks] at HF HR bx hl hW ⊢
  obtain ⟨q, hq⟩ : ∃ q, q = ks.length := ⟨_, rfl⟩
  have Hq := Lib.hid hq
  rw [← hq] at HF bx hl hW ⊢
  generalize n.ps.length = k2 at *
  generalize n.gs.length = k3 at *
  generalize n.cs.length = k4 at *
  generalize n.h = k0 at *
  obtain ⟨b, hb⟩ : ∃ b, w.heap.size = b := ⟨_, rfl⟩
  rw [hb] at bx HB HF ⊢
  have x1 : W.cell? ⟨b, 1, none⟩ = some (.slice A1 q c1) := bx.cell 1
  clear bx hks hq
  go_enter Try.func28, Try.ntmps28
  go_wp2_with fail
  go_loopw [6] (fun v6 wr => ∃ i : Nat, v6 = .int .i64 ((i : Int) - 1) ∧ i ≤ q ∧ Nd.last ks key q = Nd.last ks key i ∧ wr = W) (fun v6 _ => (intOf v6 + 1).toNat)
  case atStart => exact ⟨q, by go_num, Nat.le_refl _, rfl, rfl⟩
  case round =>
    obtain ⟨i, rfl, hi, hL, hwr⟩ := hrel
    subst hwr
    have HL := Lib.hid hL
    clear hL
    cases i with
    | zero =>
      have z0 : decide ((0 : Int) ≤ ((0 : Nat) : Int) - 1) = false := by decide
      have hF : R = (0, false) := by rw [HR.out]; unfold Nd.find; rw [← Hq.out, HL.out]; rfl
      have Fin := Lib.hid hF
      clear hF
      go_wp2_with fail
      go_returns
      exact ⟨by rw [Fin.out]; rfl, HB.out⟩
    | succ j =>
      rw [show ((j + 1 : Nat) : Int) - 1 = (j : Int) by omega]
      have z0 : decide ((0 : Int) ≤ (j : Int)) = true := by rw [decide_eq_true_eq]; omega
      have hji : (j : Int) < (q : Int) := by omega
      obtain ⟨g, o, rfl, -, hc⟩ := HF.out.int (i := j) (by rw [← Hq.out]; omega)
      by_cases hk : Nd.at_ ks j ≤ key
      · have z1 : decide (Nd.at_ ks j ≤ key) = true := by rw [decide_eq_true_eq]; exact hk
        obtain ⟨is, his⟩ : ∃ is, is = decide (Nd.at_ ks j = key) := ⟨_, rfl⟩
        have z3 : (Nd.at_ ks j == key) = is := by rw [his]; rfl
        have Fin := Lib.hid (show R = (j, is) from by rw [HR.out]; unfold Nd.find; rw [← Hq.out, HL.out, Nd.last, if_pos hk, his])
        clear hk his
        generalize Nd.at_ ks j = x at *
        go_wp2_with fail
        go_quiet (fail)
        go_wp2_with fail
        go_returns
        refine ⟨by rw [Fin.out]; rfl, ?_⟩
        have := HB.out
        exact ⟨this.os, this.tape, this.output, this.size, this.block⟩
      · have z1 : decide (Nd.at_ ks j ≤ key) = false := by rw [decide_eq_false_iff_not]; exact hk
        have Nx := Lib.hid (show Nd.last ks key q = Nd.last ks key j from by rw [HL.out, Nd.last, if_neg hk])
        clear hk
        generalize Nd.at_ ks j = x at *
        go_wp2_with fail
        go_roundw
        case rel => exact ⟨j, by go_num, by omega, Nx.out, by trivial⟩
        case measure => simp [intOf]
end Go.Proofs.Ytlcchefiicalpaa
namespace Go.Proofs.Ytlcchefiicalpaa
open Go.RowKit
/-- From a world and a store's blocks to later ones: only the store's blocks were changed, and it has only new ones more. -/
structure Stp (w : World) (X : Nat → Prop) (w' : World) (X' : Nat → Prop) : Prop where
  chg : Chg X w w'
  new : ∀ b, X' b → X b ∨ w.heap.size ≤ b
theorem Stp.refl (w : World) (X : Nat → Prop) : Stp w X w X := ⟨.refl _ _, fun _ h => .inl h⟩
theorem Stp.on {w w' w'' : World} {X X' : Nat → Prop} (h : Stp w X w' X') (k : Chg X' w' w'') : Chg X w w'' :=
  ⟨k.os.trans h.chg.os, k.tape.trans h.chg.tape, k.output.trans h.chg.output, Nat.le_trans h.chg.size k.size, fun i hi hX =>
    (k.block i (Nat.lt_of_lt_of_le hi h.chg.size) (fun e => (h.new i e).elim hX (fun e => by omega))).trans (h.chg.block i hi hX)⟩
theorem Stp.trans {w w' w'' : World} {X X' X'' : Nat → Prop} (h : Stp w X w' X') (k : Stp w' X' w'' X'') : Stp w X w'' X'' :=
  ⟨h.on k.chg, fun b hb => by
    rcases k.new b hb with h1 | h1
    · exact h.new b h1
    · exact .inr (Nat.le_trans h.chg.size h1)⟩
theorem Stp.of_below {w w' : World} (X : Nat → Prop) (h : Below w.heap.size w w') : Stp w X w' X := ⟨.of_below X h, fun _ h => .inl h⟩
theorem Stp.below {w w' w'' : World} {X X' : Nat → Prop} (h : Stp w X w' X') (k : Below w'.heap.size w' w'') : Stp w X w'' X' := h.trans (.of_below _ k)
/-- What holds whatever becomes of the store. -/
def Fast (X : Nat → Prop) (w : World) (P : World → Prop) : Prop := ∀ w', Chg X w w' → P w'
theorem Fast.now {X : Nat → Prop} {w : World} {P : World → Prop} (h : Fast X w P) : P w := h w (.refl _ _)
theorem Fast.step {X X' : Nat → Prop} {w w' : World} {P : World → Prop} (h : Fast X w P) (k : Stp w X w' X') : Fast X' w' P := fun w'' k' => h w'' (k.on k')
theorem Fast.below {X : Nat → Prop} {w w' : World} {P : World → Prop} (h : Fast X w P) (k : Below w.heap.size w w') : Fast X w' P := h.step (.of_below X k)
theorem Fast.mono {X : Nat → Prop} {w : World} {P Q : World → Prop} (h : Fast X w P) (hPQ : ∀ w', P w' → Q w') : Fast X w Q := fun w' k => hPQ w' (h w' k)
theorem Fast.and_ {X : Nat → Prop} {w : World} {P Q : World → Prop} (h : Fast X w P) (k : Fast X w Q) : Fast X w fun w' => P w' ∧ Q w' := fun w' c => ⟨h w' c, k w' c⟩
theorem Fast.blk {X : Nat → Prop} {w : World} {g : Nat} {t : TypeId} {cs : Array Value} (h : Blk w g t cs) (hX : ¬ X g) : Fast X w fun w' => Blk w' g t cs := fun _ k => h.keep (k.block g h.lt hX)
namespace Tr
def kidV (k : Nd.T3) : Value := .agg #[.int .i64 k.1, .int .i64 k.2.1, .int .i64 k.2.2]
def brV (b : Br) : Value := .agg #[.int .i64 b.k.1, .int .i64 b.k.2.1, .int .i64 b.k.2.2, .int .i64 b.h, .int .i64 b.f, .int .i64 b.t]
end Tr
/-- A node's value that may be read, whatever becomes of the store. -/
def NdX (X : Nat → Prop) (w : World) (v : Value) (n : Nd.N) : Prop := Fast X w fun u => NdAt u u.heap.size v n
/-- The same, in memory that is new since w0. -/
def NdN (w0 : World) (X : Nat → Prop) (w : World) (v : Value) (n : Nd.N) : Prop := NdX (fun b => X b ∨ b < w0.heap.size) w v n
theorem NdN.x {w0 w : World} {X : Nat → Prop} {v : Value} {n : Nd.N} (h : NdN w0 X w v n) : NdX X w v n := fun u k => h u (k.mono fun _ h => .inl h)
theorem belowN {B : Nat} {w w' : World} (h : Below B w w') (n : Nat) : Below B w (w'.drewN n) := ⟨h.os, h.tape, h.output, h.size, h.block⟩
def ndZ : Value := .agg #[.int .i64 0, .slice none 0 0, .slice none 0 0, .slice none 0 0, .slice none 0 0]
/-- What a method of the store leaves. -/
def StR (σ : Type) (Rep : World → (Nat → Prop) → σ → Prop) (w : World) (X : Nat → Prop) (st : σ) (P : World → (Nat → Prop) → Prop) (w' : World) : Prop := ∃ X', Rep w' X' st ∧ Stp w X w' X' ∧ P w' X'
/-- A store: what it is plain, the interface value, where its methods lie, how it lies in memory, what the methods do. -/
structure StoI (σ : Type) where
  S : Tr.Sto σ
  t : TypeId
  v : Value
  fL : Nat
  fS : Nat
  rL : Value
  rS : Value
  Rep : World → (Nat → Prop) → σ → Prop
  hL : ∀ (n : Nat) (w : World), (method (n + 1) t v "Load").run Try.prog w = .ok (fL, rL) w
  hS : ∀ (n : Nat) (w : World), (method (n + 1) t v "Save").run Try.prog w = .ok (fS, rS) w
  eL : ∀ (l : Array Value) (w : World), (callFunc fL l).run Try.prog w = .ok (.enter fL l) w
  eS : ∀ (l : Array Value) (w : World), (callFunc fS l).run Try.prog w = .ok (.enter fS l) w
  lt : ∀ {w X st b}, Rep w X st → X b → b < w.heap.size
  keep : ∀ {w w' X st} {G : Nat → Prop}, Rep w X st → Chg G w w' → (∀ b, X b → ¬ G b) → Rep w' X st
  err : ∀ {st k e}, (S.ld st k).2 = .error e → e ≠ 0
  errS : ∀ {st n e}, (S.sv st n).2 = .error e → e ≠ 0
  load : ∀ {w X st} (_ : Rep w X st) (k : Nd.T3) (_ : Tr.KR k), Calls Try.prog fL #[rL, Tr.kidV k] w fun e w' => StR σ Rep w X (S.ld st k).1 (fun w' X' => ∃ v c, e = .returned (.tuple #[v, .int .i64 c]) ∧ (match (S.ld st k).2 with
    | .error e => c = e ∧ NdN w X' w' v Nd.zero
    | .ok n => c = 0 ∧ NdN w X' w' v n)) w'
  save : ∀ {w X st v n} (_ : Rep w X st) (_ : NdX X w v n) (_ : Nd.Ok n), Calls Try.prog fS #[rS, v] w fun e w' => StR σ Rep w X (S.sv st n).1 (fun _ _ => ∃ k c, e = .returned (.tuple #[Tr.kidV k, .int .i64 c]) ∧ (match (S.sv st n).2 with
    | .error e => c = e
    | .ok k' => c = 0 ∧ k = k')) w'
theorem StoI.below {σ : Type} (D : StoI σ) {w w' : World} {X : Nat → Prop} {st : σ} (h : D.Rep w X st) (hb : Below w.heap.size w w') : D.Rep w' X st := D.keep h (G := fun _ => False) (.of_below _ hb) fun _ _ h => h
theorem Stp.far {w w' : World} {X X' : Nat → Prop} (h : Stp w X w' X') {b : Nat} (hb : b < w.heap.size) (hX : ¬ X b) : ¬ X' b := fun hx => (h.new b hx).elim hX fun h => by omega
theorem StoI.fresh {σ : Type} (D : StoI σ) {w : World} {X : Nat → Prop} {st : σ} (h : D.Rep w X st) : ¬ X w.heap.size := fun hx => Nat.lt_irrefl _ (D.lt h hx)
/-- The end of a walk: behind the last call of the store only blocks of one's own were changed. -/
theorem StoI.end_ {σ : Type} (D : StoI σ) {w w2 w5 : World} {X X2 : Nat → Prop} {st : σ} {G : Nat → Prop} (hR : D.Rep w2 X2 st) (hS : Stp w X w2 X2) (hc : Chg G w2 w5) (hG : ∀ b, G b → w.heap.size ≤ b ∧ ¬ X2 b) : D.Rep w5 X2 st ∧ Stp w X w5 X2 :=
  ⟨D.keep hR hc fun b hx hg => (hG b hg).2 hx, ⟨⟨hc.os.trans hS.chg.os, hc.tape.trans hS.chg.tape, hc.output.trans hS.chg.output, Nat.le_trans hS.chg.size hc.size, fun i hi hX => (hc.block i (Nat.lt_of_lt_of_le hi hS.chg.size) fun hg => by have := (hG i hg).1; omega).trans (hS.chg.block i hi hX)⟩, hS.new⟩⟩
/-- Five stores into a block. -/
theorem blk_st5 {V : World} {xb : Nat} {t : TypeId} {z0 z1 z2 z3 z4 : Value} (h : Blk V xb t #[z0, z1, z2, z3, z4]) (v0 v1 v2 v3 v4 : Value) :
    ∃ s1 s2 s3 s4 s5, V.setCell ⟨xb, 0, none⟩ v0 = s1 ∧ s1.setCell ⟨xb, 1, none⟩ v1 = s2 ∧ s2.setCell ⟨xb, 2, none⟩ v2 = s3 ∧ s3.setCell ⟨xb, 3, none⟩ v3 = s4 ∧ s4.setCell ⟨xb, 4, none⟩ v4 = s5 ∧
      (V.frozen? ⟨xb, 0, none⟩ = false ∧ s1.frozen? ⟨xb, 1, none⟩ = false ∧ s2.frozen? ⟨xb, 2, none⟩ = false ∧ s3.frozen? ⟨xb, 3, none⟩ = false ∧ s4.frozen? ⟨xb, 4, none⟩ = false) ∧
      (V.cell? ⟨xb, 0, none⟩ = some z0 ∧ s1.cell? ⟨xb, 1, none⟩ = some z1 ∧ s2.cell? ⟨xb, 2, none⟩ = some z2 ∧ s3.cell? ⟨xb, 3, none⟩ = some z3 ∧ s4.cell? ⟨xb, 4, none⟩ = some z4) ∧
      Blk s5 xb t #[v0, v1, v2, v3, v4] ∧ Chg (fun b => b = xb) V s5 := by
  refine ⟨_, _, _, _, _, rfl, rfl, rfl, rfl, rfl, ?_⟩
  have r1 : Blk (V.setCell ⟨xb, 0, none⟩ v0) xb t #[v0, z1, z2, z3, z4] := h.set_ 0 _
  have r2 : Blk ((V.setCell ⟨xb, 0, none⟩ v0).setCell ⟨xb, 1, none⟩ v1) xb t #[v0, v1, z2, z3, z4] := r1.set_ 1 _
  have r3 : Blk (((V.setCell ⟨xb, 0, none⟩ v0).setCell ⟨xb, 1, none⟩ v1).setCell ⟨xb, 2, none⟩ v2) xb t #[v0, v1, v2, z3, z4] := r2.set_ 2 _
  have r4 : Blk ((((V.setCell ⟨xb, 0, none⟩ v0).setCell ⟨xb, 1, none⟩ v1).setCell ⟨xb, 2, none⟩ v2).setCell ⟨xb, 3, none⟩ v3) xb t #[v0, v1, v2, v3, z4] := r3.set_ 3 _
  have r5 : Blk (((((V.setCell ⟨xb, 0, none⟩ v0).setCell ⟨xb, 1, none⟩ v1).setCell ⟨xb, 2, none⟩ v2).setCell ⟨xb, 3, none⟩ v3).setCell ⟨xb, 4, none⟩ v4) xb t #[v0, v1, v2, v3, v4] := r4.set_ 4 _
  refine ⟨⟨h.frozen 0, r1.frozen 1, r2.frozen 2, r3.frozen 3, r4.frozen 4⟩, ⟨h.cell 0, r1.cell 1, r2.cell 2, r3.cell 3, r4.cell 4⟩, r5, ?_⟩
  exact (((((Chg.refl (fun b => b = xb) V).setCell (p := ⟨xb, 0, none⟩) (.inl rfl) _).setCell (p := ⟨xb, 1, none⟩) (.inl rfl) _).setCell (p := ⟨xb, 2, none⟩) (.inl rfl) _).setCell (p := ⟨xb, 3, none⟩) (.inl rfl) _).setCell (p := ⟨xb, 4, none⟩) (.inl rfl) _
def StoI.val {σ : Type} (D : StoI σ) : Value := .iface D.t D.v
end Go.Proofs.Ytlcchefiicalpaa
namespace Go.Proofs.Ytlcchefiicalpaa
open Go.RowKit
/-- An entry as a value. -/
abbrev evv (k a n s g : Int) : Value := .agg #[.int .i64 k, .int .i64 a, .int .i64 n, .int .i64 s, .int .i64 g]
def ev (e : Tr.E) : Value := evv e.k e.p.1 e.p.2.1 e.p.2.2 e.g
theorem SlC.ev {w : World} {B : Nat} {A : Option Addr} {c n : Nat} {l : List Tr.E} (h : SlC w B A c n (evs l)) {i : Nat} (hi : i < l.length) : ∃ b o, A = some ⟨b, o, none⟩ ∧ b < B ∧ w.cell? ⟨b, o + i * 5, none⟩ = some (.int .i64 (l.getD i Tr.z).k) ∧ w.cell? ⟨b, o + i * 5 + 1, none⟩ = some (.int .i64 (l.getD i Tr.z).p.1) ∧ w.cell? ⟨b, o + i * 5 + 2, none⟩ = some (.int .i64 (l.getD i Tr.z).p.2.1) ∧ w.cell? ⟨b, o + i * 5 + 3, none⟩ = some (.int .i64 (l.getD i Tr.z).p.2.2) ∧ w.cell? ⟨b, o + i * 5 + 4, none⟩ = some (.int .i64 (l.getD i Tr.z).g) := by
  have hl := evs_len l
  obtain ⟨b, o, e, hb, hc⟩ := h.sl.at_ (show i * 5 < (evs l).length by omega)
  obtain ⟨e1, e2, e3, e4, e5⟩ := evs_at hi
  refine ⟨b, o, e, hb, ?_, ?_, ?_, ?_, ?_⟩
  · rw [hc (i * 5) (by omega), ← List.getElem?_eq_getElem, e1]
  · rw [Nat.add_assoc, hc (i * 5 + 1) (by omega), ← List.getElem?_eq_getElem, e2]
  · rw [Nat.add_assoc, hc (i * 5 + 2) (by omega), ← List.getElem?_eq_getElem, e3]
  · rw [Nat.add_assoc, hc (i * 5 + 3) (by omega), ← List.getElem?_eq_getElem, e4]
  · rw [Nat.add_assoc, hc (i * 5 + 4) (by omega), ← List.getElem?_eq_getElem, e5]
end Go.Proofs.Ytlcchefiicalpaa
namespace Go.Proofs.Ytlcchefiicalpaa
open Go.RowKit
namespace Tr
def KeysOk (ks : List Int) : Prop := ∀ i, i < ks.length → 0 ≤ Nd.at_ ks i ∧ Nd.at_ ks i < 512
end Tr
theorem sl_five {w : World} {a b c d e : Value} {t : TypeId} : Sl (w.alloc (.cells #[a, b, c, d, e] t)) (w.heap.size + 1) (some ⟨w.heap.size, 0, none⟩) [a, b, c, d, e] := .inr ⟨w.heap.size, 0, rfl, by omega, fun i hi => by
  have : i < 5 := hi
  have : i = 0 ∨ i = 1 ∨ i = 2 ∨ i = 3 ∨ i = 4 := by omega
  rcases this with rfl | rfl | rfl | rfl | rfl <;> exact (Blk.new w t _).cell _⟩
/-- Entries cut out, half way. -/
structure CutI (W wr : World) (u : Value) (i : Nat) (m : List Tr.E) (ks : List Int) : Prop where
  row : wr.ownsRow W.heap.size 87 5 u (Tr.cuts (m.take i) ks).length (evs (Tr.cuts (m.take i) ks))
  bel : Below W.heap.size W wr
theorem CutI.drewN {W wr : World} {u : Value} {i : Nat} {m : List Tr.E} {ks : List Int} (h : CutI W wr u i m ks) (n : Nat) : CutI W (wr.drewN n) u i m ks := ⟨own_keep h.row fun _ _ _ => rfl, ⟨h.bel.os, h.bel.tape, h.bel.output, h.bel.size, h.bel.block⟩⟩
end Go.Proofs.Ytlcchefiicalpaa
namespace Go.Proofs.Ytlcchefiicalpaa
open Go.RowKit
theorem tentry_parts : ∃ i, Try.prog.info? 84 = some i ∧ i.zero = some (.agg #[.int .i64 0, .int .i64 0, .int .i64 0, .int .i64 0, .int .i64 0]) ∧ i.size = 5 ∧ i.bytes = 40 := by
  have h : (Try.prog.info? 84).map (fun i => (i.zero, i.size, i.bytes)) = some (some (.agg #[.int .i64 0, .int .i64 0, .int .i64 0, .int .i64 0, .int .i64 0]), 5, 40) := by kernel_rfl
  obtain ⟨i, hi, hh⟩ := Option.map_eq_some_iff.1 h
  simp only [Prod.mk.injEq] at hh
  exact ⟨i, hi, hh.1, hh.2.1, hh.2.2⟩
/-- Entries copied, half way. -/
structure EntI (W wr : World) (u : Value) (i : Nat) (l : List Tr.E) : Prop where
  row : wr.ownsRow W.heap.size 84 5 u i (evs (l.take i))
  bel : Below W.heap.size W wr
end Go.Proofs.Ytlcchefiicalpaa
