/- The program's visit. The program's visit, walked. What All and Nodes gather: their closures. -/
import Derived.Test.YtlcchefiicalpaaZwcf
import Derived.Test.YtlcchefiicalpaaZwcg
import Derived.Test.YtlcchefiicalpaaZwi
import Derived.Test.YtlcchefiicalpaaZwj
namespace Go.Proofs.Ytlcchefiicalpaa
open Go.RowKit
namespace Tr
def wkCat {σ α : Type} (done : List α) (r : Res σ (List α)) : Res σ (List α) := match r with
  | (st, .error e) => (st, .error e)
  | (st, .ok a) => (st, .ok (done ++ a))
theorem wkCat_nil {σ α : Type} (r : Res σ (List α)) : wkCat [] r = r := by rcases r with ⟨s, er | l⟩ <;> rfl
theorem wkCat_end {σ α : Type} {v : σ → Br → Res σ (List α)} {st : σ} {done : List α} : wkCat done (walkKids v [] st) = (st, .ok done) := by simp [walkKids, wkCat]
theorem wkCat_err {σ α : Type} {v : σ → Br → Res σ (List α)} {st s2 : σ} {done : List α} {b : Br} {bs : List Br} {er : Int} (hv : v st b = (s2, .error er)) : wkCat done (walkKids v (b :: bs) st) = (s2, .error er) := by
  rw [walkKids, hv]
  rfl
theorem wkCat_more {σ α : Type} {v : σ → Br → Res σ (List α)} {st s2 : σ} {done a : List α} {b : Br} {bs : List Br} (hv : v st b = (s2, .ok a)) : wkCat done (walkKids v (b :: bs) st) = wkCat (done ++ a) (walkKids v bs s2) := by
  rw [walkKids, hv]
  dsimp only
  rcases walkKids v bs s2 with ⟨s, er | l⟩ <;> simp [wkCat]
/-- How much a walk may gather. -/
def vk : Nat → Nat
  | 0 => 8
  | h + 1 => 8 + 8 * vk h
end Tr
/-- What is gathered: where it lies, how it is kept, what a call for one node does. -/
structure AccI (α : Type) where
  g : Tr.Br → Nd.N → List α
  fid : Nat
  cp : Value
  Acc : World → (Nat → Prop) → List α → Prop
  lt : ∀ {w G a b}, Acc w G a → G b → b < w.heap.size
  keep : ∀ {w w' G a} {F : Nat → Prop}, Acc w G a → Chg F w w' → (∀ b, G b → ¬ F b) → Acc w' G a
  en : ∀ (a : Array Value) (W : World), (callFunc fid a).run Try.prog W = .ok (.enter fid a) W
  few : ∀ {b n}, Tr.FitsB b n → (g b n).length ≤ 8
  call : ∀ {w G a b n v}, Acc w G a → Tr.FitsB b n → a.length ≤ 4000000 → NdX G w v n → Calls Try.prog fid #[Tr.kidV b.k, v, cp] w fun e w' => e = .returned (.tuple #[]) ∧ ∃ G', Acc w' G' (a ++ g b n) ∧ Stp w G w' G'
def AccI.fv {α : Type} (A : AccI α) : Value := .func (.func A.fid) #[] #[A.cp]
section
variable {σ α : Type} (D : StoI σ) (V : AccI α)
theorem walk_len {h : Nat} {st : σ} {b : Tr.Br} {r : List α} (e : (Tr.walk D.S V.g h st b).2 = .ok r) : r.length ≤ Tr.vk h := by
  induction h generalizing st b r with
  | zero =>
    unfold Tr.walk at e
    rcases hl : Tr.load D.S st b with ⟨s1, er | n⟩
    · rw [hl] at e; cases e
    · rw [hl] at e
      injection e with e
      subst e
      exact V.few (load_fits D (st := st) (by rw [hl]))
  | succ h ih =>
    unfold Tr.walk at e
    rcases hl : Tr.load D.S st b with ⟨s1, er | n⟩
    · rw [hl] at e; cases e
    · rw [hl] at e
      dsimp only at e
      have hf := load_fits D (st := st) (b := b) (n := n) (by rw [hl])
      have hk : ∀ (bs : List Tr.Br) (u : σ) (q : List α), (Tr.walkKids (Tr.walk D.S V.g h) bs u).2 = .ok q → q.length ≤ bs.length * Tr.vk h := by
        intro bs
        induction bs with
        | nil => intro u q hq; injection hq with hq; subst hq; exact Nat.zero_le _
        | cons c bs ih2 =>
          intro u q hq
          rw [Tr.walkKids] at hq
          rcases h2 : Tr.walk D.S V.g h u c with ⟨u', er | a⟩
          · rw [h2] at hq; cases hq
          · rw [h2] at hq
            dsimp only at hq
            rcases h3 : Tr.walkKids (Tr.walk D.S V.g h) bs u' with ⟨u'', er | d⟩
            · rw [h3] at hq; cases hq
            · rw [h3] at hq
              injection hq with hq
              subst hq
              have h4 := ih (st := u) (b := c) (r := a) (by rw [h2])
              have h5 := ih2 u' d (by rw [h3])
              rw [List.length_append, List.length_cons, Nat.add_mul, Nat.one_mul]
              omega
      rcases h4 : Tr.walkKids (Tr.walk D.S V.g h) (Tr.kidsB b n) s1 with ⟨u, er | q⟩
      · rw [h4] at e; cases e
      · rw [h4] at e
        injection e with e
        subst e
        have h5 := hk _ _ _ (show (Tr.walkKids (Tr.walk D.S V.g h) (Tr.kidsB b n) s1).2 = .ok q by rw [h4])
        rw [Tr.kids_len] at h5
        have h6 := Nat.mul_le_mul_right (Tr.vk h) hf.1.few
        have h7 := V.few hf
        rw [List.length_append]
        show _ ≤ 8 + 8 * Tr.vk h
        omega
/-- What visit answers. -/
def VsR (w : World) (X G : Nat → Prop) (a : List α) (st' : σ) (r : Except Int (List α)) (e : Ending) (w' : World) : Prop := ∃ X' G', D.Rep w' X' st' ∧ (∀ b, G' b → ¬ X' b) ∧ Stp w (fun b => X b ∨ G b) w' (fun b => X' b ∨ G' b) ∧ (match r with
    | .error er => er ≠ 0 ∧ e = .returned (.int .i64 er)
    | .ok q => e = .returned (.int .i64 0) ∧ V.Acc w' G' (a ++ q))
def VsC (h : Nat) : Prop := ∀ {w : World} {X G : Nat → Prop} {st : σ} {b : Tr.Br} {a : List α}, D.Rep w X st → V.Acc w G a → (∀ b, G b → ¬ X b) → b.h.toNat = h ∧ Tr.KR b.k → (h ≤ 5 → a.length + Tr.vk h ≤ 4000000) →
  Calls Try.prog 67 #[D.val, Tr.brV b, V.fv] w (VsR D V w X G a (Tr.walk D.S V.g h st b).1 (Tr.walk D.S V.g h st b).2)
theorem Stp.left {w w' : World} {X X' : Nat → Prop} (h : Stp w X w' X') (G : Nat → Prop) : Stp w (fun b => X b ∨ G b) w' (fun b => X' b ∨ G b) := h.with G
theorem Stp.right {w w' : World} {G G' : Nat → Prop} (h : Stp w G w' G') (X : Nat → Prop) : Stp w (fun b => X b ∨ G b) w' (fun b => X b ∨ G' b) :=
  ⟨h.chg.mono fun _ h => .inr h, fun b hb => hb.elim (fun hb => .inl (.inl hb)) fun hb => (h.new b hb).imp .inr id⟩
/-- Where visit stands behind its node's call. -/
structure VsI (W0 : World) (X G : Nat → Prop) (bb yb : Nat) (C Y : Array Value) (v : Value) (n : Nd.N) (all : Tr.Res σ (List α)) (f : σ → Tr.Br → Tr.Res σ (List α)) (bs : List Tr.Br) (a0 done : List α) (wr : World) (Xr Gr : Nat → Prop) (sr : σ) : Prop where
  rep : D.Rep wr Xr sr
  acc : V.Acc wr Gr (a0 ++ done)
  dis : ∀ b, Gr b → ¬ Xr b
  stp : Stp W0 (fun b => X b ∨ G b) wr (fun b => Xr b ∨ Gr b)
  box : Blk wr bb 137 C
  fb : ¬ (Xr bb ∨ Gr bb)
  nod : Blk wr yb 35 Y
  fy : ¬ (Xr yb ∨ Gr yb)
  ndx : NdX (fun b => Xr b ∨ Gr b) wr v n
  eq : all = Tr.wkCat done (Tr.walkKids f bs sr)
theorem VsI.next {W0 : World} {X G : Nat → Prop} {bb yb : Nat} {C Y : Array Value} {v : Value} {n : Nd.N} {all : Tr.Res σ (List α)} {f : σ → Tr.Br → Tr.Res σ (List α)} {c : Tr.Br} {bs : List Tr.Br} {a0 done q : List α} {wr u w6 : World} {Xr Gr X6 G6 : Nat → Prop} {sr s6 : σ} (hI : VsI D V W0 X G bb yb C Y v n all f (c :: bs) a0 done wr Xr Gr sr) (hu : Below wr.heap.size wr u) (hr : D.Rep w6 X6 s6) (hd : ∀ b, G6 b → ¬ X6 b) (hs : Stp u (fun b => Xr b ∨ Gr b) w6 (fun b => X6 b ∨ G6 b)) (ha : V.Acc w6 G6 ((a0 ++ done) ++ q)) (hf : f sr c = (s6, .ok q)) : VsI D V W0 X G bb yb C Y v n all f bs a0 (done ++ q) w6 X6 G6 s6 := by
  have h1 : Stp wr (fun b => Xr b ∨ Gr b) w6 (fun b => X6 b ∨ G6 b) := (Stp.of_below _ hu).trans hs
  exact ⟨hr, by rw [← List.append_assoc]; exact ha, hd, hI.stp.trans h1, hI.box.keep (h1.chg.block bb hI.box.lt hI.fb), h1.far hI.box.lt hI.fb, hI.nod.keep (h1.chg.block yb hI.nod.lt hI.fy), h1.far hI.nod.lt hI.fy, Fast.step hI.ndx h1, hI.eq.trans (Tr.wkCat_more hf)⟩
/-- Behind the call for the node itself. -/
theorem vs_start {w W0 w2 w3 w4 : World} {X G X2 G4 : Nat → Prop} {b : Tr.Br} {n : Nd.N} {st1 : σ} {a : List α} {v : Value} {bb yb : Nat} {C Y : Array Value} {f : σ → Tr.Br → Tr.Res σ (List α)} {bs : List Tr.Br} (hb0 : Below w.heap.size w W0) (hG : ∀ b, G b → ¬ X b) (hGl : ∀ b, G b → b < w.heap.size) (hXl : ∀ b, X b → b < w.heap.size) (hbx : Blk W0 bb 137 C) (hbb : w.heap.size ≤ bb)
    (hR2 : D.Rep w2 X2 st1) (hS2 : Stp W0 X w2 X2) (hn : NdN W0 X2 w2 v n) (hyb : w2.heap.size = yb) (hW3 : w2.alloc (.cells Y 35) = w3) (h4 : V.Acc w4 G4 (a ++ V.g b n)) (hS4 : Stp w3 G w4 G4) : VsI D V w X G bb yb C Y v n (Tr.walkKids f bs st1) f bs (a ++ V.g b n) [] w4 X2 G4 st1 := by
  have hb3 : Below w2.heap.size w2 w3 := by rw [← hW3]; exact below_alloc1 _ _
  have hGX2 : ∀ b, G b → ¬ X2 b := fun b hb => hS2.far (Nat.lt_of_lt_of_le (hGl b hb) hb0.size) (hG b hb)
  have s0 := hb0.size
  have s2 := hS2.chg.size
  have s3 := hb3.size
  have hX2l : ∀ b, X2 b → b < w3.heap.size := fun b hb => Nat.lt_of_lt_of_le (D.lt hR2 hb) s3
  have hd : ∀ b, G4 b → ¬ X2 b := fun b hb hx => (hS4.new b hb).elim (fun hb => hGX2 b hb hx) fun hb => by have := hX2l b hx; omega
  have hstp : Stp w (fun b => X b ∨ G b) w4 (fun b => X2 b ∨ G4 b) := ((Stp.of_below _ hb0).trans ((hS2.left G).below hb3)).trans (hS4.right X2)
  have hbl := hbx.lt
  have nbb : ¬ X2 bb := hS2.far hbl fun hx => by have := hXl bb hx; omega
  have nbG : ¬ G bb := fun hx => by have := hGl bb hx; omega
  have b3 : Blk w3 bb 137 C := (hbx.keep (hS2.chg.block bb hbl fun hx => by have := hXl bb hx; omega)).keep (hb3.block bb (Nat.lt_of_lt_of_le hbl s2))
  have y3 : Blk w3 yb 35 Y := by rw [← hW3, ← hyb]; exact Blk.new _ _ _
  have nyG : ¬ G yb := fun hx => by have := hGl yb hx; omega
  have nyX : ¬ X2 yb := fun hx => by have := D.lt hR2 hx; omega
  refine ⟨D.keep hR2 ((Chg.of_below G hb3).then_ hS4.chg) fun b hx hg => hGX2 b hg hx, by rw [List.append_nil]; exact h4, hd, hstp, b3.keep (hS4.chg.block bb b3.lt nbG), fun h => h.elim nbb fun h => (hS4.new bb h).elim nbG fun h => by have := b3.lt; omega, y3.keep (hS4.chg.block yb y3.lt nyG), fun h => h.elim nyX fun h => (hS4.new yb h).elim nyG fun h => by have := y3.lt; omega, ?_, (Tr.wkCat_nil _).symm⟩
  · intro u q
    refine hn u ⟨q.os.trans (hS4.chg.os.trans hb3.os), q.tape.trans (hS4.chg.tape.trans hb3.tape), q.output.trans (hS4.chg.output.trans hb3.output), Nat.le_trans s3 (Nat.le_trans hS4.chg.size q.size), fun i hi hx => ?_⟩
    have hxi : ¬ X2 i := fun h => hx (.inl h)
    have hgi : ¬ G i := fun h => hx (.inr (Nat.lt_of_lt_of_le (hGl i h) s0))
    have hg4 : ¬ G4 i := fun h => (hS4.new i h).elim hgi fun h => by omega
    exact (q.block i (Nat.lt_of_lt_of_le hi (Nat.le_trans s3 hS4.chg.size)) fun h => h.elim hxi hg4).trans ((hS4.chg.block i (Nat.lt_of_lt_of_le hi s3) hgi).trans (hb3.block i hi))
theorem leaf_ks {b : Tr.Br} {n : Nd.N} (hf : Tr.FitsB b n) (h0 : b.h.toNat = 0) : n.cs = [] := (hf.1.leaf (by have := hf.2.1; have := hf.1.h0; omega)).2.2.1
end
end Go.Proofs.Ytlcchefiicalpaa
namespace Go.Proofs.Ytlcchefiicalpaa
open Go.RowKit
theorem cells6 {w : World} {xb : Nat} {t : TypeId} {a b c d e f : Value} (h : Blk w xb t #[a, b, c, d, e, f]) : w.cell? ⟨xb, 0, none⟩ = some a ∧ w.cell? ⟨xb, 1, none⟩ = some b ∧ w.cell? ⟨xb, 2, none⟩ = some c ∧ w.cell? ⟨xb, 3, none⟩ = some d ∧ w.cell? ⟨xb, 4, none⟩ = some e ∧ w.cell? ⟨xb, 5, none⟩ = some f := ⟨h.cell 0, h.cell 1, h.cell 2, h.cell 3, h.cell 4, h.cell 5⟩
theorem nod5 {w : World} {xb : Nat} {a b c d e : Value} (h : Blk w xb 35 #[a, b, c, d, e]) : w.cell? ⟨xb, 0, none⟩ = some a ∧ w.cell? ⟨xb, 1, none⟩ = some b ∧ w.cell? ⟨xb, 2, none⟩ = some c ∧ w.cell? ⟨xb, 3, none⟩ = some d ∧ w.cell? ⟨xb, 4, none⟩ = some e := ⟨h.cell 0, h.cell 1, h.cell 2, h.cell 3, h.cell 4⟩
theorem vs_nd {w W0 w2 W3 u : World} {X2 G : Nat → Prop} (b3 : Below w2.heap.size w2 W3) (_hs : w.heap.size ≤ w2.heap.size) (h0 : w.heap.size ≤ W0.heap.size) (hG : ∀ b, G b → b < w.heap.size) (q : Chg G W3 u) : Chg (fun b => X2 b ∨ b < W0.heap.size) w2 u :=
  ⟨q.os.trans b3.os, q.tape.trans b3.tape, q.output.trans b3.output, Nat.le_trans b3.size q.size, fun i hi hn => (q.block i (Nat.lt_of_lt_of_le hi b3.size) fun hg => hn (.inr (Nat.lt_of_lt_of_le (hG i hg) h0))).trans (b3.block i hi)⟩
theorem vs_ch {w W0 w2 W3 : World} {X X2 : Nat → Prop} (b0 : Below w.heap.size w W0) (hS : Stp W0 X w2 X2) (b3 : Below w2.heap.size w2 W3) : Chg X w W3 := ((Stp.of_below X b0).trans (hS.below b3)).chg
section
variable {σ α : Type} (D : StoI σ) (V : AccI α)
set_option maxRecDepth 8000 in
set_option maxHeartbeats 16000000 in
theorem visit_any (h : Nat) (IH : ∀ k, h = k + 1 → VsC D V k) : VsC D V h := by
  intro w X G st b a hr ha hG hh hfew
  obtain ⟨W0, hW0⟩ : ∃ W, w.alloc (.cells #[.int .i64 b.k.1, .int .i64 b.k.2.1, .int .i64 b.k.2.2, .int .i64 b.h, .int .i64 b.f, .int .i64 b.t] 137) = W := ⟨_, rfl⟩
  have bx0 : Blk W0 w.heap.size 137 #[.int .i64 b.k.1, .int .i64 b.k.2.1, .int .i64 b.k.2.2, .int .i64 b.h, .int .i64 b.f, .int .i64 b.t] := by rw [← hW0]; exact Blk.new _ _ _
  have hb0 : Below w.heap.size w W0 := by rw [← hW0]; exact below_alloc1 _ _
  have hR := D.below hr hb0
  have HXl := Lib.hid (show ∀ b, X b → b < w.heap.size from fun b hb => D.lt hr hb)
  have HGl := Lib.hid (show ∀ b, G b → b < w.heap.size from fun b hb => V.lt ha hb)
  have HG := Lib.hid hG
  have HA := Lib.hid ha
  have HB0 := Lib.hid hb0
  obtain ⟨bb, hbb⟩ : ∃ g, w.heap.size = g := ⟨_, rfl⟩
  rw [hbb] at bx0
  have Hbb := Lib.hid (Nat.le_of_eq hbb)
  have BX := Lib.hid bx0
  obtain ⟨x0, x1, x2, x3, x4, x5⟩ := cells6 bx0
  have HC := load_any D hR b hh.2
  obtain ⟨RR, hRR⟩ : ∃ R, Tr.walk D.S V.g h st b = R := ⟨_, rfl⟩
  rw [hRR]
  have hfv : V.fv = .func (.func V.fid) #[] #[V.cp] := rfl
  have en := V.en
  rcases hld : Tr.load D.S st b with ⟨st1, er | n⟩
  · have e1 : RR = (st1, .error er) := by rw [← hRR]; cases h <;> (unfold Tr.walk; rw [hld])
    have her := load_err D (st := st) (b := b) (e := er) (by rw [hld])
    have zE : ((er : Int) != 0) = true := by simpa using her
    have Her := Lib.hid her
    have E1 := Lib.hid e1
    rw [hld] at HC
    unfold LoR ndZ at HC
    dsimp only at HC
    clear hr ha hG hh hfew bx0 hb0 hR hRR hld e1 her IH
    unfold Tr.brV at HC ⊢
    go_enter Try.func67, Try.ntmps67
    go_wp2_with (go_at_call 72; (with_reducible refine HC.mono ?_); rintro e w2 ⟨X2, hR2, hS2, v, c, rfl, hc, rfl⟩; subst c; (have P2 := Lib.hid (show D.Rep w2 X2 st1 ∧ (∀ b, G b → ¬ X2 b) ∧ Stp w (fun b => X b ∨ G b) w2 (fun b => X2 b ∨ G b) from ⟨hR2, fun b hb => hS2.far (Nat.lt_of_lt_of_le (HGl.out b hb) HB0.out.size) (HG.out b hb), (Stp.of_below _ HB0.out).trans (hS2.left G)⟩)); clear hR2 hS2)
    go_ret
    rw [E1.out]
    exact ⟨X2, G, D.below P2.out.1 (below_alloc1 _ _), P2.out.2.1, P2.out.2.2.below (below_alloc1 _ _), Her.out, rfl⟩
  · have hf := load_fits D (st := st) (b := b) (n := n) (by rw [hld])
    have HF := Lib.hid hf
    have h5 : h ≤ 5 := by have := hf.1.h6; have := hf.2.1; omega
    have Hfew := Lib.hid (hfew h5)
    obtain ⟨k1, hk1⟩ : ∃ k, n.ks.length = k := ⟨_, rfl⟩
    obtain ⟨k2, hk2⟩ : ∃ k, n.ps.length = k := ⟨_, rfl⟩
    obtain ⟨k3, hk3⟩ : ∃ k, n.gs.length = k := ⟨_, rfl⟩
    obtain ⟨k4, hk4⟩ : ∃ k, n.cs.length = k := ⟨_, rfl⟩
    obtain ⟨nh, hnh⟩ : ∃ k, n.h = k := ⟨_, rfl⟩
    have HK := Lib.hid (show n.ks.length = k1 ∧ n.ps.length = k2 ∧ n.gs.length = k3 ∧ n.cs.length = k4 ∧ n.h = nh from ⟨hk1, hk2, hk3, hk4, hnh⟩)
    have Hh := Lib.hid hh
    obtain ⟨f, hfd⟩ : ∃ f : σ → Tr.Br → Tr.Res σ (List α), ∀ k, h = k + 1 → f = Tr.walk D.S V.g k := by
      cases h with
      | zero => exact ⟨fun s _ => (s, .ok []), fun k hk => by cases hk⟩
      | succ k => exact ⟨Tr.walk D.S V.g k, fun j hj => by injection hj with hj; rw [hj]⟩
    obtain ⟨bs, hbs⟩ : ∃ bs : List Tr.Br, (h = 0 → bs = []) ∧ (∀ k, h = k + 1 → bs = Tr.kidsB b n) := by
      cases h with
      | zero => exact ⟨[], (fun _ => rfl), (fun k hk => by cases hk)⟩
      | succ k => exact ⟨Tr.kidsB b n, (fun hk => by cases hk), fun _ _ => rfl⟩
    have HRe := Lib.hid (show ∀ s er, Tr.walkKids f bs st1 = (s, .error er) → RR = (s, .error er) from fun s er hk => by
      rw [← hRR]
      cases h with
      | zero => rw [hbs.1 rfl] at hk; cases hk
      | succ k => rw [hbs.2 k rfl, hfd k rfl] at hk; unfold Tr.walk; rw [hld]; dsimp only; rw [hk])
    have HRo := Lib.hid (show ∀ s q, Tr.walkKids f bs st1 = (s, .ok q) → RR = (s, .ok (V.g b n ++ q)) from fun s q hk => by
      rw [← hRR]
      cases h with
      | zero => rw [hbs.1 rfl] at hk; injection hk with h1 h2; injection h2 with h2; subst h1; subst h2; unfold Tr.walk; rw [hld, List.append_nil]
      | succ k => rw [hbs.2 k rfl, hfd k rfl] at hk; unfold Tr.walk; rw [hld]; dsimp only; rw [hk])
    have hk4l : k4 = bs.length := by
      cases h with
      | zero => rw [hbs.1 rfl, ← hk4, leaf_ks hf hh.1]; rfl
      | succ k => rw [hbs.2 k rfl, Tr.kids_len, ← hk4]; exact (hf.1.inner (by have := hf.2.1; omega)).1
    have hk8 : bs.length ≤ 8 := by
      cases h with
      | zero => rw [hbs.1 rfl]; exact Nat.zero_le _
      | succ k => rw [hbs.2 k rfl, Tr.kids_len]; exact hf.1.few
    have hk4b : k4 ≤ 8 := by rw [hk4l]; exact hk8
    have Hk4 := Lib.hid hk4l
    have Hbs := Lib.hid hbs
    have Hfd := Lib.hid hfd
    have HIH := Lib.hid IH
    have Ha4 := Lib.hid (show a.length ≤ 4000000 from by have := hfew h5; omega)
    rw [hld] at HC
    unfold LoR at HC
    dsimp only at HC
    clear hr ha hG hh hfew bx0 hb0 hR hRR hld IH hf h5 hk1 hk2 hk3 hk4 hnh hfd hbs hk4l hk8
    unfold Tr.brV at HC ⊢
    rw [hfv]
    go_enter Try.func67, Try.ntmps67
    go_wp2_with (first
      | (go_at_call 72; (with_reducible refine HC.mono ?_); rintro e w2 ⟨X2, hR2, hS2, v, c, rfl, rfl, hv⟩; (obtain ⟨A1, c1, A2, c2, A3, c3, A4, c4, e5, hf5⟩ := hv.now); rw [HK.out.1, HK.out.2.1, HK.out.2.2.1, HK.out.2.2.2.1, HK.out.2.2.2.2] at e5; subst e5; (obtain ⟨yb, hyb⟩ : ∃ y, w2.heap.size = y := ⟨_, rfl⟩); (obtain ⟨W3, hW3⟩ : ∃ W, w2.alloc (.cells #[.int .i64 nh, .slice A1 k1 c1, .slice A2 k2 c2, .slice A3 k3 c3, .slice A4 k4 c4] 35) = W := ⟨_, rfl⟩); (have b3 : Below w2.heap.size w2 W3 := by rw [← hW3]; exact below_alloc1 _ _); (have nd3 : NdX G W3 (.agg #[.int .i64 nh, .slice A1 k1 c1, .slice A2 k2 c2, .slice A3 k3 c3, .slice A4 k4 c4]) n := fun u q => hv u (vs_nd b3 (Nat.le_trans HB0.out.size hS2.chg.size) HB0.out.size HGl.out q)); (obtain ⟨x0, x1, x2, x3, x4, x5⟩ := cells6 ((BX.out.keep (hS2.chg.block bb BX.out.lt fun hx => Nat.lt_irrefl _ (Nat.lt_of_lt_of_le (HXl.out bb hx) Hbb.out))).keep (b3.block bb (Nat.lt_of_lt_of_le BX.out.lt hS2.chg.size)))); (obtain ⟨q0, q1, q2, q3, q4⟩ := nod5 (show Blk W3 yb 35 #[.int .i64 nh, .slice A1 k1 c1, .slice A2 k2 c2, .slice A3 k3 c3, .slice A4 k4 c4] from by rw [← hW3, ← hyb]; exact Blk.new _ _ _)); (have HCl0 := V.call (V.keep HA.out (vs_ch HB0.out hS2 b3) (fun b hb hx => HG.out b hb hx)) HF.out Ha4.out nd3); (dsimp only [Tr.kidV] at HCl0); (have HCl := Lib.hid HCl0); (have P2 := Lib.hid (show D.Rep w2 X2 st1 ∧ Stp W0 X w2 X2 ∧ NdN W0 X2 w2 (.agg #[.int .i64 nh, .slice A1 k1 c1, .slice A2 k2 c2, .slice A3 k3 c3, .slice A4 k4 c4]) n ∧ w2.heap.size = yb ∧ w2.alloc (.cells #[.int .i64 nh, .slice A1 k1 c1, .slice A2 k2 c2, .slice A3 k3 c3, .slice A4 k4 c4] 35) = W3 from ⟨hR2, hS2, hv, hyb, hW3⟩)); clear hR2 hS2 hv hf5 b3 nd3 HCl0)
      | ((with_reducible refine HCl.out.mono ?_); rintro e w4 ⟨rfl, G4, ha4, hS4⟩; (have I4 := Lib.hid (vs_start D V (b := b) (n := n) (a := a) (f := f) (bs := bs) HB0.out HG.out HGl.out HXl.out BX.out Hbb.out P2.out.1 P2.out.2.1 P2.out.2.2.1 P2.out.2.2.2.1 P2.out.2.2.2.2 ha4 hS4)); (obtain ⟨-, -, -, -, z4⟩ := nod5 I4.out.nod); clear ha4 hS4))
    clear hyb hW3 x0 x1 x2 x3 x4 x5 q0 q1 q2 q3 q4 z4
    go_loopw [28] (fun v28 wr => ∃ (i : Nat) (done : List α) (Xr Gr : Nat → Prop) (sr : σ), v28 = .int .i64 (i : Int) ∧ i ≤ k4 ∧ done.length ≤ i * Tr.vk (h - 1) ∧ VsI D V w X G bb yb #[.int .i64 b.k.1, .int .i64 b.k.2.1, .int .i64 b.k.2.2, .int .i64 b.h, .int .i64 b.f, .int .i64 b.t] #[.int .i64 nh, .slice A1 k1 c1, .slice A2 k2 c2, .slice A3 k3 c3, .slice A4 k4 c4] (.agg #[.int .i64 nh, .slice A1 k1 c1, .slice A2 k2 c2, .slice A3 k3 c3, .slice A4 k4 c4]) n (Tr.walkKids f bs st1) f (bs.drop i) (a ++ V.g b n) done wr Xr Gr sr) (fun v28 _ => k4 - (intOf v28).toNat)
    case atStart => exact ⟨0, [], X2, G4, st1, rfl, Nat.zero_le _, Nat.zero_le _, I4.out⟩
    case round =>
      obtain ⟨i, done, Xr, Gr, sr, rfl, hi, hdl, hI⟩ := hrel
      clear I4 P2 HCl
      have HI := Lib.hid hI
      by_cases hik : i < k4
      · have y0 : decide ((i : Int) < (k4 : Int)) = true := by rw [decide_eq_true_eq]; omega
        have y0' : decide (i < k4) = true := by rw [decide_eq_true_eq]; exact hik
        have y1 : (i : Int) < (k4 : Int) := by omega
        have Wi : wrap64 ((i : Int) + 1) = (i : Int) + 1 := by simp only [wrap64]; omega
        obtain ⟨x0, x1, x2, x3, x4, x5⟩ := cells6 hI.box
        obtain ⟨q0, q1, q2, q3, q4⟩ := nod5 hI.nod
        obtain ⟨j, hj⟩ : ∃ j, h = j + 1 := by
          cases h with
          | zero => have := Hk4.out; rw [Hbs.out.1 rfl] at this; simp at this; omega
          | succ j => exact ⟨j, rfl⟩
        have hbs2 := Hbs.out.2 j hj
        have hfj := Hfd.out j hj
        have hlen : i < (Tr.kidsB b n).length := by rw [← hbs2, ← Hk4.out]; exact hik
        have hget : (Tr.kidsB b n)[i]? = some (Tr.kidB b n i) := by
          unfold Tr.kidsB
          rw [Tr.kids_len] at hlen
          rw [List.getElem?_map, List.getElem?_range hlen]; rfl
        have Dr := Lib.hid (show bs.drop i = Tr.kidB b n i :: bs.drop (i + 1) by rw [hbs2]; exact drop_next hget)
        have hkl : i < n.ks.length := by rw [Tr.kids_len] at hlen; exact hlen
        have hnd := hI.ndx.now
        have HE0 := branchof_any b hnd i hkl (by rw [HK.out.2.2.2.1]; exact hik) (by have := HF.out.1.h0; have := HF.out.1.h6; have := HF.out.2.1; omega) HF.out.1.few
        obtain ⟨e0, he0⟩ : ∃ e, e = Tr.kidB b n i := ⟨_, rfl⟩
        have Hh0 := Lib.hid (show e0.h.toNat = j ∧ Tr.KR e0.k from by rw [he0]; refine ⟨?_, Tr.kr_kid (h := j) (Hh.out.1.trans hj) HF.out hkl⟩; show (b.h - 1).toNat = j; have := Hh.out.1; omega)
        rw [← he0] at HE0 Dr
        unfold Tr.brV at HE0
        have HE := Lib.hid HE0
        have hvk : Tr.vk h = 8 + 8 * Tr.vk j := by rw [hj]; rfl
        have hdj : done.length ≤ i * Tr.vk j := by rw [hj] at hdl; exact hdl
        have hmul : i * Tr.vk j + Tr.vk j ≤ 8 * Tr.vk j := by
          have := Nat.mul_le_mul_right (Tr.vk j) (show i + 1 ≤ 8 by omega)
          rw [Nat.add_mul, Nat.one_mul] at this
          exact this
        have hVc := fun (u : World) (hu : Below wr.heap.size wr u) => HIH.out j hj (w := u) (X := Xr) (G := Gr) (st := sr) (b := e0) (a := (a ++ V.g b n) ++ done) (D.below HI.out.rep hu) (V.keep HI.out.acc (Chg.of_below (fun _ => False) hu) fun _ _ h => h) HI.out.dis Hh0.out (fun _ => by
          have h1 := Hfew.out
          have h2 := V.few HF.out
          rw [List.length_append, List.length_append]
          omega)
        unfold Tr.brV at hVc
        rw [hfv] at hVc
        have Hik := Lib.hid hik
        have Hdl : Hid (∀ q : List α, q.length ≤ Tr.vk j → (done ++ q).length ≤ (i + 1) * Tr.vk (h - 1)) := Lib.hid (fun q hq => by rw [List.length_append, hj, Nat.add_mul, Nat.one_mul]; show _ ≤ i * Tr.vk j + Tr.vk j; omega)
        rw [← hfj] at hVc
        have Hwl := Lib.hid (show ∀ q, (f sr e0).2 = .ok q → q.length ≤ Tr.vk j from fun q hq => walk_len D V (by rw [← hfj]; exact hq))
        clear hI hik hi hdl hbs2 hlen hget hkl hnd HE0 hvk hdj hmul hj he0
        rcases hvs : f sr e0 with ⟨s6, er6 | q6⟩
        · rw [hvs] at hVc
          unfold VsR at hVc
          dsimp only at hVc
          have HVc := Lib.hid hVc
          have FE := Lib.hid (HRe.out s6 er6 (HI.out.eq.trans (by rw [Dr.out]; exact Tr.wkCat_err hvs)))
          clear hVc hvs hfj
          go_wp2_with (first
            | (go_at_call 73; (with_reducible refine HE.out.mono ?_); rintro e w5 ⟨rfl, hb5⟩; (have B5 := Lib.hid hb5); clear hb5)
            | (go_at_call 67; (with_reducible refine (HVc.out w5 B5.out).mono ?_); rintro e w6 ⟨X6, G6, hR6, hd6, hS6, hne6, rfl⟩; (have P6 := Lib.hid (show D.Rep w6 X6 s6 ∧ (∀ b, G6 b → ¬ X6 b) ∧ Stp w (fun b => X b ∨ G b) w6 (fun b => X6 b ∨ G6 b) ∧ er6 ≠ 0 from ⟨hR6, hd6, (HI.out.stp.below B5.out).trans hS6, hne6⟩)); (have zE : ((er6 : Int) != 0) = true := by simpa using hne6); clear hR6 hd6 hS6 hne6))
          go_ret
          rw [FE.out]
          exact ⟨X6, G6, P6.out.1, P6.out.2.1, P6.out.2.2.1, P6.out.2.2.2, rfl⟩
        · rw [hvs] at hVc
          unfold VsR at hVc
          dsimp only at hVc
          have HVc := Lib.hid hVc
          have Hvs := Lib.hid hvs
          clear hVc hvs hfj
          go_wp2_with (first
            | (go_at_call 73; (with_reducible refine HE.out.mono ?_); rintro e w5 ⟨rfl, hb5⟩; (have B5 := Lib.hid hb5); clear hb5)
            | (go_at_call 67; (with_reducible refine (HVc.out w5 B5.out).mono ?_); rintro e w6 ⟨X6, G6, hR6, hd6, hS6, rfl, hA6⟩; (have I6 := Lib.hid (VsI.next D V (Dr.out ▸ HI.out) B5.out hR6 hd6 hS6 hA6 Hvs.out)); clear hR6 hd6 hS6 hA6))
          go_roundw
          case rel => exact ⟨i + 1, _, X6, G6, s6, by go_num, Hik.out, Hdl.out q6 (Hwl.out q6 (by rw [Hvs.out])), I6.out⟩
          case measure => exact meas_up Hik.out
      · obtain rfl : i = k4 := by omega
        have y0 : decide ((i : Int) < (i : Int)) = false := by rw [decide_eq_false_iff_not]; omega
        have y0' : decide (i < i) = false := by rw [decide_eq_false_iff_not]; omega
        have hdr : bs.drop i = [] := List.drop_eq_nil_of_le (by rw [← Hk4.out]; exact Nat.le_refl _)
        have FE := Lib.hid (HRo.out sr done (HI.out.eq.trans (by rw [hdr]; exact Tr.wkCat_end)))
        clear hI hik hi hdl hdr
        go_wp2_with fail
        go_ret
        rw [FE.out]
        exact ⟨Xr, Gr, HI.out.rep, HI.out.dis, HI.out.stp, rfl, by rw [← List.append_assoc]; exact HI.out.acc⟩
theorem visit_is : ∀ h, VsC D V h
  | 0 => visit_any D V 0 fun k hk => by cases hk
  | h + 1 => visit_any D V (h + 1) fun k hk => by injection hk with hk; subst hk; exact visit_is h
end
end Go.Proofs.Ytlcchefiicalpaa
namespace Go.Proofs.Ytlcchefiicalpaa
open Go.RowKit
/-- A slice in a cell of its own, its row one's own. -/
structure RA (ob : Nat) (T E : TypeId) (size : Nat) (xs : List Value) (n : Nat) (v : Value) (w : World) (G : Nat → Prop) : Prop where
  blk : Blk w ob T #[v]
  own : w.ownsRow 0 E size v n xs
  g : ∀ b, G b ↔ (b = ob ∨ v.ownBlock = some b)
  ne_ : E ≠ T
section
variable {ob : Nat} {T E : TypeId} {size : Nat} {xs xs' : List Value} {n n' : Nat} {v v7 : Value} {w w' w6 w7 : World} {G : Nat → Prop}
theorem RA.lt (h : RA ob T E size xs n v w G) {b : Nat} (hb : G b) : b < w.heap.size := by
  rcases (h.g b).1 hb with rfl | hb
  · exact h.blk.lt
  · exact (h.own.lt b hb).2
theorem RA.keep (h : RA ob T E size xs n v w G) {F : Nat → Prop} (hc : Chg F w w') (hF : ∀ b, G b → ¬ F b) : RA ob T E size xs n v w' G :=
  ⟨h.blk.keep (hc.block ob h.blk.lt (hF ob ((h.g ob).2 (.inl rfl)))), own_keep h.own fun b hb hl => hc.block b hl (hF b ((h.g b).2 (.inr hb))), h.g, h.ne_⟩
theorem RA.below (h : RA ob T E size xs n v w G) (hb : Below w.heap.size w w') : RA ob T E size xs n v w' G := h.keep (.of_below (fun _ => False) hb) fun _ _ h => h
theorem RA.put (h : RA ob T E size xs n v w G) (hb6 : Below w.heap.size w w6) (ho : w7.ownsRow 0 E size v7 n' xs') (hg : w6.grownBy w7 v.ownBlock) (hv : v7.ownBlock = v.ownBlock ∨ v7.ownBlock = some w6.heap.size) :
    w7.frozen? ⟨ob, 0, none⟩ = false ∧ w7.cell? ⟨ob, 0, none⟩ = some v ∧ ∃ G', RA ob T E size xs' n' v7 (w7.setCell ⟨ob, 0, none⟩ v7) G' ∧ Stp w G (w7.setCell ⟨ob, 0, none⟩ v7) G' := by
  have hlt := h.blk.lt
  have hvo : v.ownBlock ≠ some ob := own_ne6 h.own h.blk h.ne_
  have b7 : Blk w7 ob T #[v] := ((h.below hb6).blk).grown hg hvo
  have hno : v7.ownBlock ≠ some ob := fun e => by
    rcases hv with e' | e'
    · exact hvo (e' ▸ e)
    · rw [e'] at e; injection e with e; have := hb6.size; omega
  refine ⟨b7.frozen 0, b7.cell 0, fun b => b = ob ∨ v7.ownBlock = some b, ⟨b7.set_ 0 _, own_far ho hno _, fun b => Iff.rfl, h.ne_⟩, ⟨?_, fun b hb => ?_⟩⟩
  · have hC : Chg (fun b => b = ob ∨ v.ownBlock = some b) w (w7.setCell ⟨ob, 0, none⟩ v7) := ((Chg.of_below _ hb6).grown hg fun k hk => .inl (.inr hk)).setCell (p := ⟨ob, 0, none⟩) (.inl (.inl rfl)) v7
    exact hC.mono fun b hb => (h.g b).2 hb
  · rcases hb with rfl | hb
    · exact .inl ((h.g _).2 (.inl rfl))
    · rcases hv with e' | e'
      · exact .inl ((h.g b).2 (.inr (e' ▸ hb)))
      · rw [e'] at hb; injection hb with hb; exact .inr (hb ▸ hb6.size)
end
def nodAcc (ob : Nat) (w : World) (G : Nat → Prop) (l : List Nd.T3) : Prop := ∃ v, RA ob 33 58 3 (tcs l) l.length v w G
def allAcc (ob : Nat) (w : World) (G : Nat → Prop) (l : List Tr.E) : Prop := ∃ v, RA ob 79 84 5 (evs l) l.length v w G
set_option maxRecDepth 8000 in
set_option maxHeartbeats 8000000 in
theorem nodes1_any {ob : Nat} {w : World} {G : Nat → Prop} {l : List Nd.T3} {b : Tr.Br} {n : Nd.N} {v : Value} (h : nodAcc ob w G l) (few : l.length ≤ 4000000) (hn : NdX G w v n) :
    Calls Try.prog 76 #[Tr.kidV b.k, v, .pointer (some ⟨ob, 0, none⟩)] w fun e w' => e = .returned (.tuple #[]) ∧ ∃ G', nodAcc ob w' G' (l ++ [b.k]) ∧ Stp w G w' G' := by
  obtain ⟨i2, hi2, hz2, hs2, hb2'⟩ := nkid_parts
  obtain ⟨u, hA⟩ := h
  obtain ⟨A1, c1, A2, c2, A3, c3, A4, c4, rfl, -⟩ := hn.now
  obtain ⟨m, hm⟩ : ∃ m, l.length = m := ⟨_, rfl⟩
  rw [hm] at hA few
  obtain ⟨O, co, rfl⟩ := own_slice hA.own
  obtain ⟨W1, hW1⟩ : ∃ W, w.alloc (.cells #[.int .i64 b.k.1, .int .i64 b.k.2.1, .int .i64 b.k.2.2] 58) = W := ⟨_, rfl⟩
  obtain ⟨W2, hW2⟩ : ∃ W, W1.alloc (.cells #[.int .i64 n.h, .slice A1 n.ks.length c1, .slice A2 n.ps.length c2, .slice A3 n.gs.length c3, .slice A4 n.cs.length c4] 35) = W := ⟨_, rfl⟩
  have hb1 : Below w.heap.size w W1 := by rw [← hW1]; exact below_alloc1 _ _
  have hb2 : Below W1.heap.size W1 W2 := by rw [← hW2]; exact below_alloc1 _ _
  have HB := Lib.hid (hb1.trans (hb2.mono hb1.size))
  have HA2 := Lib.hid (hA.below HB.out)
  have bk : Blk W2 w.heap.size 58 #[.int .i64 b.k.1, .int .i64 b.k.2.1, .int .i64 b.k.2.2] := (show Blk W1 _ _ _ by rw [← hW1]; exact Blk.new _ _ _).keep (hb2.block _ (by rw [← hW1]; simp))
  have q0 : W2.cell? ⟨w.heap.size, 0, none⟩ = some (.int .i64 b.k.1) := bk.cell 0
  have q1 : W2.cell? ⟨w.heap.size, 1, none⟩ = some (.int .i64 b.k.2.1) := bk.cell 1
  have q2 : W2.cell? ⟨w.heap.size, 2, none⟩ = some (.int .i64 b.k.2.2) := bk.cell 2
  have y : W2.cell? ⟨ob, 0, none⟩ = some (.slice O m co) := HA2.out.blk.cell 0
  have MB := Lib.hid (show m + 1 ≤ maxLen ∧ (m + 1) * 24 ≤ 140737488355328 from ⟨by unfold maxLen; omega, by omega⟩)
  have HA := Lib.hid hA
  have Hm := Lib.hid hm
  clear hA hb1 hb2 bk hm hn
  unfold Tr.kidV
  go_enter Try.func76, Try.ntmps76
  go_wp2_with (at_builtin; refine wpList_append_sls (base := 0) _ rfl (.tmp 5) (.tmp 7) _ rfl Try.underlying33 hi2 hz2 hs2 hb2' rfl (by decide) rfl (HA2.out.below (below_alloc1 _ _)).own (m := 1) (news := [.int .i64 b.k.1, .int .i64 b.k.2.1, .int .i64 b.k.2.2]) rfl rfl (by simp) (Nat.le_refl _) sl_3 (by simp [Value.oneCell']) MB.out.1 MB.out.2 (Nat.zero_le _) ?_; intro v7 w7 h1 h2 h3; (have PT := HA.out.put (HB.out.trans ((below_alloc1 W2 _).mono HB.out.size)) (show w7.ownsRow 0 58 3 v7 (m + 1) (tcs (l ++ [b.k])) from by rw [tcs_app]; exact h1) h2 h3); (obtain ⟨A7, c7, rfl⟩ := own_slice h1); (obtain ⟨fz, cz, G7, hA7, hS7⟩ := PT); (have F7 := Lib.hid (show nodAcc ob (w7.setCell ⟨ob, 0, none⟩ (.slice A7 (m + 1) c7)) G7 (l ++ [b.k]) ∧ Stp w G (w7.setCell ⟨ob, 0, none⟩ (.slice A7 (m + 1) c7)) G7 from ⟨⟨_, by rw [List.length_append, Hm.out]; exact hA7⟩, hS7⟩)); clear h1 h2 h3 hA7 hS7)
  go_end0
  exact ⟨rfl, G7, F7.out.1, F7.out.2⟩
theorem all_len {n : Nd.N} (ho : Nd.Ok n) {i : Nat} (hi : i < n.ps.length) : i < n.ks.length ∧ i < n.gs.length := by
  by_cases h0 : n.h = 0
  · obtain ⟨h1, h2, -, -⟩ := ho.leaf h0
    exact ⟨by omega, by omega⟩
  · obtain ⟨-, -, h3, -, -⟩ := ho.inner h0
    rw [h3] at hi
    cases hi
/-- The load of the slice that All grows, under a name: it is not to be taken first. -/
def ldAll : Op := Op.load 79 (.tmp 2)
/-- Where the closure of All stands. -/
structure AlI (ob yb : Nat) (w : World) (G : Nat → Prop) (Y : Array Value) (v : Value) (n : Nd.N) (l : List Tr.E) (i : Nat) (u : Value) (wr : World) (Gr : Nat → Prop) : Prop where
  ra : RA ob 79 84 5 (evs (l ++ (List.range i).map (Tr.leafE n))) (l.length + i) u wr Gr
  stp : Stp w G wr Gr
  nod : Blk wr yb 35 Y
  fy : ¬ Gr yb
  ndx : NdX Gr wr v n
theorem AlI.next {ob yb : Nat} {w : World} {G : Nat → Prop} {Y : Array Value} {v : Value} {n : Nd.N} {l : List Tr.E} {i m : Nat} {u v7 : Value} {wr w6 w7 : World} {Gr : Nat → Prop} (hI : AlI ob yb w G Y v n l i u wr Gr) (hm : l.length + i = m) {e : Tr.E} (he : e = Tr.leafE n i) (hb6 : Below wr.heap.size wr w6) (ho : w7.ownsRow 0 84 5 v7 (m + 1) (evs (l ++ (List.range i).map (Tr.leafE n)) ++ evs [e])) (hg : w6.grownBy w7 u.ownBlock) (hv : v7.ownBlock = u.ownBlock ∨ v7.ownBlock = some w6.heap.size) :
    w7.frozen? ⟨ob, 0, none⟩ = false ∧ w7.cell? ⟨ob, 0, none⟩ = some u ∧ (w7.heap[yb]? = wr.heap[yb]? ∧ (w7.setCell ⟨ob, 0, none⟩ v7).heap[yb]? = wr.heap[yb]?) ∧ ∃ G', AlI ob yb w G Y v n l (i + 1) v7 (w7.setCell ⟨ob, 0, none⟩ v7) G' := by
  subst hm
  have ho' : w7.ownsRow 0 84 5 v7 (l.length + (i + 1)) (evs (l ++ (List.range (i + 1)).map (Tr.leafE n))) := by
    rw [List.range_succ, List.map_append, ← List.append_assoc, evs_app]
    subst he
    exact ho
  obtain ⟨h1, h2, G', h3, h4⟩ := hI.ra.put hb6 ho' hg hv
  have hyo : u.ownBlock ≠ some yb := fun e' => hI.fy ((hI.ra.g yb).2 (.inr e'))
  have hyb : yb ≠ ob := fun e' => hI.fy ((hI.ra.g yb).2 (.inl e'))
  have k7 : w7.heap[yb]? = wr.heap[yb]? := (hg.block yb (Nat.lt_of_lt_of_le hI.nod.lt hb6.size) (Ne.symm hyo)).trans (hb6.block yb hI.nod.lt)
  refine ⟨h1, h2, ⟨k7, (Below.heap_setCell w7 _ _ yb hyb).trans k7⟩, G', h3, hI.stp.trans h4, hI.nod.keep (h4.chg.block yb hI.nod.lt hI.fy), h4.far hI.nod.lt hI.fy, Fast.step hI.ndx h4⟩
set_option maxRecDepth 8000 in
set_option maxHeartbeats 16000000 in
theorem all1_any {ob : Nat} {w : World} {G : Nat → Prop} {l : List Tr.E} {k : Nd.T3} {n : Nd.N} {v : Value} (h : allAcc ob w G l) (hok : Nd.Ok n) (few : l.length ≤ 4000000) (hn : NdX G w v n) :
    Calls Try.prog 69 #[Tr.kidV k, v, .pointer (some ⟨ob, 0, none⟩)] w fun e w' => e = .returned (.tuple #[]) ∧ ∃ G', allAcc ob w' G' (l ++ (List.range n.ps.length).map (Tr.leafE n)) ∧ Stp w G w' G' := by
  obtain ⟨i2, hi2, hz2, hs2, hb2'⟩ := tentry_parts
  obtain ⟨u, hA⟩ := h
  obtain ⟨A1, c1, A2, c2, A3, c3, A4, c4, rfl, -⟩ := hn.now
  have HO := Lib.hid hok
  obtain ⟨k1, hk1⟩ : ∃ k, n.ks.length = k := ⟨_, rfl⟩
  obtain ⟨k2, hk2⟩ : ∃ k, n.ps.length = k := ⟨_, rfl⟩
  obtain ⟨k3, hk3⟩ : ∃ k, n.gs.length = k := ⟨_, rfl⟩
  obtain ⟨k4, hk4⟩ : ∃ k, n.cs.length = k := ⟨_, rfl⟩
  obtain ⟨nh, hnh⟩ : ∃ k, n.h = k := ⟨_, rfl⟩
  have hk28 : k2 ≤ 8 := by
    have h8 := hok.few
    rcases Nat.eq_zero_or_pos k2 with h0 | h0
    · omega
    · have := (all_len hok (i := k2 - 1) (by omega)).1
      omega
  rw [hk1, hk2, hk3, hk4, hnh] at hn ⊢
  have HK := Lib.hid (show n.ps.length = k2 from hk2)
  obtain ⟨W1, hW1⟩ : ∃ W, w.alloc (.cells #[.int .i64 k.1, .int .i64 k.2.1, .int .i64 k.2.2] 58) = W := ⟨_, rfl⟩
  obtain ⟨W2, hW2⟩ : ∃ W, W1.alloc (.cells #[.int .i64 nh, .slice A1 k1 c1, .slice A2 k2 c2, .slice A3 k3 c3, .slice A4 k4 c4] 35) = W := ⟨_, rfl⟩
  have hb1 : Below w.heap.size w W1 := by rw [← hW1]; exact below_alloc1 _ _
  have hb2 : Below W1.heap.size W1 W2 := by rw [← hW2]; exact below_alloc1 _ _
  have hb := hb1.trans (hb2.mono hb1.size)
  obtain ⟨yb, hyb⟩ : ∃ y, w.heap.size + 1 = y := ⟨_, rfl⟩
  have hs1 : W1.heap.size = yb := by rw [← hW1, ← hyb]; simp
  have I0 := Lib.hid (show AlI ob yb w G #[.int .i64 nh, .slice A1 k1 c1, .slice A2 k2 c2, .slice A3 k3 c3, .slice A4 k4 c4] (.agg #[.int .i64 nh, .slice A1 k1 c1, .slice A2 k2 c2, .slice A3 k3 c3, .slice A4 k4 c4]) n l 0 u W2 G from ⟨by
    have := hA.below hb
    rw [List.range_zero, List.map_nil, List.append_nil]
    exact this, Stp.of_below G hb, by rw [← hW2, ← hs1]; exact Blk.new _ _ _, fun hg => by have := hA.lt hg; omega, Fast.below hn hb⟩)
  obtain ⟨z0, z1, z2, z3, z4⟩ := nod5 I0.out.nod
  have Hfw := Lib.hid few
  clear hA hb1 hb2 hb hn hok hk1 hk2 hk3 hk4 hnh few
  unfold Tr.kidV
  go_enter Try.func69, Try.ntmps69
  go_wp2_with fail
  clear hW1 hW2 hyb hs1 z0 z1 z2 z3 z4
  go_loopw [9] (fun v9 wr => ∃ (i : Nat) (u : Value) (Gr : Nat → Prop), v9 = .int .i64 (i : Int) ∧ i ≤ k2 ∧ AlI ob yb w G #[.int .i64 nh, .slice A1 k1 c1, .slice A2 k2 c2, .slice A3 k3 c3, .slice A4 k4 c4] (.agg #[.int .i64 nh, .slice A1 k1 c1, .slice A2 k2 c2, .slice A3 k3 c3, .slice A4 k4 c4]) n l i u wr Gr) (fun v9 _ => k2 - (intOf v9).toNat)
  case atStart => exact ⟨0, u, G, rfl, Nat.zero_le _, I0.out⟩
  case round =>
    clear I0 u
    obtain ⟨i, u, Gr, rfl, hi, hI⟩ := hrel
    have HI := Lib.hid hI
    by_cases hik : i < k2
    · have y0 : decide ((i : Int) < (k2 : Int)) = true := by rw [decide_eq_true_eq]; omega
      have y0' : decide (i < k2) = true := by rw [decide_eq_true_eq]; exact hik
      have y1 : (i : Int) < (k2 : Int) := by omega
      have Wi := Lib.hid (show wrap64 ((i : Int) + 1) = (i : Int) + 1 by simp only [wrap64]; omega)
      obtain ⟨m, hm⟩ : ∃ m, l.length + i = m := ⟨_, rfl⟩
      obtain ⟨O, co, rfl⟩ : ∃ A c, u = .slice A m c := by
        obtain ⟨A, c, e⟩ := own_slice hI.ra.own
        exact ⟨A, c, by rw [e, hm]⟩
      have MB := Lib.hid (show m + 1 ≤ maxLen ∧ (m + 1) * 40 ≤ 140737488355328 from by have := Hfw.out; exact ⟨by unfold maxLen; omega, by omega⟩)
      have hp : i < n.ps.length := by rw [HK.out]; exact hik
      obtain ⟨hp1, hp2⟩ := all_len HO.out hp
      have HE0 := entryof_any (show NdAt wr.drew wr.drew.heap.size (.agg #[.int .i64 nh, .slice A1 k1 c1, .slice A2 k2 c2, .slice A3 k3 c3, .slice A4 k4 c4]) n from hI.ndx wr.drew (Chg.refl _ _).drew) i hp1 hp hp2
      obtain ⟨e0, he0⟩ : ∃ e, e = Tr.leafE n i := ⟨_, rfl⟩
      have He0 := Lib.hid he0
      rw [← he0] at HE0
      obtain ⟨ek, ⟨e1, e2, e3⟩, eg⟩ := e0
      dsimp only [ev, evv] at HE0
      have HE := Lib.hid HE0
      have Hm := Lib.hid hm
      have Hik := Lib.hid hik
      have KY := Lib.hid (show ∀ U : World, U.heap[yb]? = wr.heap[yb]? → U.cell? ⟨yb, 0, none⟩ = some (.int .i64 nh) ∧ U.cell? ⟨yb, 1, none⟩ = some (.slice A1 k1 c1) ∧ U.cell? ⟨yb, 2, none⟩ = some (.slice A2 k2 c2) ∧ U.cell? ⟨yb, 3, none⟩ = some (.slice A3 k3 c3) ∧ U.cell? ⟨yb, 4, none⟩ = some (.slice A4 k4 c4) from fun U hU => nod5 (HI.out.nod.keep hU))
      have yo : wr.cell? ⟨ob, 0, none⟩ = some (.slice O m co) := hI.ra.blk.cell 0
      have ya : wr.drew.cell? ⟨ob, 0, none⟩ = some (.slice O m co) := yo
      have Oz := Lib.hid (show ∀ w6 : World, Below wr.drew.heap.size wr.drew w6 → Below wr.heap.size wr w6 ∧ w6.cell? ⟨ob, 0, none⟩ = some (.slice O m co) ∧ (∀ o, (w6.alloc o).cell? ⟨ob, 0, none⟩ = some (.slice O m co)) ∧ w6.heap[yb]? = wr.heap[yb]? ∧ ∀ o, (w6.alloc o).heap[yb]? = wr.heap[yb]? from fun w6 h6 => by
        have hB := undrew h6
        have hB2 := fun o => hB.trans ((below_alloc1 w6 o).mono hB.size)
        exact ⟨hB, (HI.out.ra.below hB).blk.cell 0, fun o => (HI.out.ra.below (hB2 o)).blk.cell 0, hB.block yb HI.out.nod.lt, fun o => (hB2 o).block yb HI.out.nod.lt⟩)
      clear hI hp hp1 hp2 HE0 he0 hm hik hi
      go_wp2_with fail
      have hld : ldAll = Op.load 79 (.tmp 2) := rfl
      rw [← hld]
      go_region_held_law (fun U => U.cell? ⟨yb, 0, none⟩ = some (.int .i64 nh) ∧ U.cell? ⟨yb, 1, none⟩ = some (.slice A1 k1 c1) ∧ U.cell? ⟨yb, 2, none⟩ = some (.slice A2 k2 c2) ∧ U.cell? ⟨yb, 3, none⟩ = some (.slice A3 k3 c3) ∧ U.cell? ⟨yb, 4, none⟩ = some (.slice A4 k4 c4)) (first | exact KY.out _ rfl | exact KY.out _ P6.out.2.2.1 | exact KY.out _ (P6.out.2.2.2 _) | exact KY.out _ P7.out.1 | exact KY.out _ P7.out.2.1) (first
        | (go_at_call 70; (with_reducible refine HE.out.mono ?_); rintro e w6 ⟨rfl, hb6⟩; (obtain ⟨p1, p2, p3, p4, p5⟩ := Oz.out w6 hb6); (have P6 := Lib.hid (show Below wr.heap.size wr w6 ∧ (∀ o, Below wr.heap.size wr (w6.alloc o)) ∧ w6.heap[yb]? = wr.heap[yb]? ∧ ∀ o, (w6.alloc o).heap[yb]? = wr.heap[yb]? from ⟨p1, fun o => p1.trans ((below_alloc1 w6 o).mono p1.size), p4, p5⟩)); clear p1 p4 p5 hb6)
        | (refine step_append3 (base := 0) _ rfl (.tmp 12) (.tmp 16) _ rfl Try.underlying79 hi2 hz2 hs2 hb2' rfl (by decide) rfl (Hm.out ▸ (HI.out.ra.below (P6.out.2.1 _)).own) (m := 1) (news := [.int .i64 ek, .int .i64 e1, .int .i64 e2, .int .i64 e3, .int .i64 eg]) rfl rfl (by simp) (Nat.le_refl _) sl_five (by simp [Value.oneCell']) MB.out.1 MB.out.2 (Nat.zero_le _) ?_; intro v7 w7 h1 h2 h3; (have PT := AlI.next HI.out Hm.out He0.out (P6.out.2.1 _) h1 h2 h3); (obtain ⟨A7, c7, rfl⟩ := own_slice h1); (obtain ⟨fz, cz, ⟨s7, s8⟩, G7, hI7⟩ := PT); (have P7 := Lib.hid (show w7.heap[yb]? = wr.heap[yb]? ∧ (w7.setCell ⟨ob, 0, none⟩ (.slice A7 (m + 1) c7)).heap[yb]? = wr.heap[yb]? ∧ AlI ob yb w G #[.int .i64 nh, .slice A1 k1 c1, .slice A2 k2 c2, .slice A3 k3 c3, .slice A4 k4 c4] (.agg #[.int .i64 nh, .slice A1 k1 c1, .slice A2 k2 c2, .slice A3 k3 c3, .slice A4 k4 c4]) n l (i + 1) (.slice A7 (m + 1) c7) (w7.setCell ⟨ob, 0, none⟩ (.slice A7 (m + 1) c7)) G7 from ⟨s7, s8, hI7⟩)); clear h1 h2 h3 s7 s8 hI7))
      all_goals
        (try simp only [List.getElem_toArray, List.getElem_cons_succ, List.getElem_cons_zero])
        have Wi := Wi.out
        go_wp2_with fail
        go_roundw
        case rel => exact ⟨i + 1, _, G7, by go_num, Hik.out, P7.out.2.2⟩
        case measure => exact meas_up Hik.out
    · obtain rfl : i = k2 := by omega
      have y0 : decide ((i : Int) < (i : Int)) = false := by rw [decide_eq_false_iff_not]; omega
      have y0' : decide (i < i) = false := by rw [decide_eq_false_iff_not]; omega
      clear hI hik hi
      go_wp2_with fail
      go_end0
      refine ⟨rfl, Gr, ⟨u, ?_⟩, HI.out.stp⟩
      rw [List.length_append, List.length_map, List.length_range]
      exact HI.out.ra
/-- The two as what visit asks. -/
def nodV (ob : Nat) : AccI Nd.T3 where
  g := Tr.nodesG
  fid := 76
  cp := .pointer (some ⟨ob, 0, none⟩)
  Acc := nodAcc ob
  lt := fun ⟨_, h⟩ hb => h.lt hb
  keep := fun ⟨v, h⟩ hc hF => ⟨v, h.keep hc hF⟩
  en := fun a W => by kernel_rfl
  few := fun _ => by unfold Tr.nodesG; simp
  call := fun h _ hl hn => nodes1_any h hl hn
def allV (ob : Nat) : AccI Tr.E where
  g := Tr.allG
  fid := 69
  cp := .pointer (some ⟨ob, 0, none⟩)
  Acc := allAcc ob
  lt := fun ⟨_, h⟩ hb => h.lt hb
  keep := fun ⟨v, h⟩ hc hF => ⟨v, h.keep hc hF⟩
  en := fun a W => by kernel_rfl
  few := fun {b n} hf => by
    unfold Tr.allG
    rw [List.length_map, List.length_range]
    have h8 := hf.1.few
    rcases Nat.eq_zero_or_pos n.ps.length with h0 | h0
    · omega
    · have := (all_len hf.1 (i := n.ps.length - 1) (by omega)).1
      omega
  call := fun h hf hl hn => all1_any h hf.1 hl hn
end Go.Proofs.Ytlcchefiicalpaa
