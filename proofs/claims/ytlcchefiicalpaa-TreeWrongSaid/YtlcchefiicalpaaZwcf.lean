/- A node that is being built by the program's save, beside the store. The program's save. -/
import Derived.Test.YtlcchefiicalpaaZwcd
import Derived.Test.YtlcchefiicalpaaZwce
namespace Go.Proofs.Ytlcchefiicalpaa
open Go.RowKit
def ownAny (u1 u2 u3 u4 : Value) (g : Nat) : Prop := u1.ownBlock = some g ∨ u2.ownBlock = some g ∨ u3.ownBlock = some g ∨ u4.ownBlock = some g
/-- The node's block and its rows; the store; blocks that are kept. -/
structure SvW {σ : Type} (D : StoI σ) (W0 : World) (X : Nat → Prop) (st : σ) (w : World) (Xr : Nat → Prop) (xb : Nat) (hh : Int) (ks : List Int) (ps : List Nd.T3) (gs : List Int) (cs : List Nd.T3) (u1 u2 u3 u4 : Value) (Kp : Nat → TypeId → Array Value → Prop) : Prop where
  rep : D.Rep w Xr st
  stp : Stp W0 X w Xr
  blk : Blk w xb 35 #[.int .i64 hh, u1, u2, u3, u4]
  hx : W0.heap.size ≤ xb
  fx : ¬ Xr xb
  o1 : w.ownsRow W0.heap.size 3 1 u1 ks.length (ivs ks)
  o2 : w.ownsRow W0.heap.size 54 3 u2 ps.length (tcs ps)
  o3 : w.ownsRow W0.heap.size 3 1 u3 gs.length (ivs gs)
  o4 : w.ownsRow W0.heap.size 58 3 u4 cs.length (tcs cs)
  dis : ∀ g, u1.ownBlock = some g → u3.ownBlock ≠ some g
  far : ∀ g, ownAny u1 u2 u3 u4 g → ¬ Xr g ∧ g ≠ xb
  kp : ∀ g t C, Kp g t C → Blk w g t C ∧ ¬ Xr g ∧ g ≠ xb ∧ W0.heap.size ≤ g ∧ ¬ ownAny u1 u2 u3 u4 g
section
variable {σ : Type} {D : StoI σ} {W0 : World} {X : Nat → Prop} {st : σ} {w : World} {Xr : Nat → Prop} {xb : Nat} {hh : Int} {ks gs : List Int} {ps cs : List Nd.T3} {u1 u2 u3 u4 : Value} {Kp : Nat → TypeId → Array Value → Prop}
theorem SvW.keep_ (h : SvW D W0 X st w Xr xb hh ks ps gs cs u1 u2 u3 u4 Kp) {w' : World} {X' : Nat → Prop} {st' : σ} (hr : D.Rep w' X' st') (hs : Stp W0 X w' X') (hk : ∀ b, b < w.heap.size → ¬ Xr b → w'.heap[b]? = w.heap[b]?) (hX : ∀ b, b < w.heap.size → ¬ Xr b → ¬ X' b) : SvW D W0 X st' w' X' xb hh ks ps gs cs u1 u2 u3 u4 Kp := by
  have F : ∀ g, ownAny u1 u2 u3 u4 g → g < w.heap.size := fun g hg => by
    rcases hg with hg | hg | hg | hg
    · exact (h.o1.lt g hg).2
    · exact (h.o2.lt g hg).2
    · exact (h.o3.lt g hg).2
    · exact (h.o4.lt g hg).2
  refine ⟨hr, hs, h.blk.keep (hk xb h.blk.lt h.fx), h.hx, hX xb h.blk.lt h.fx, own_keep h.o1 fun b hb hl => hk b hl (h.far b (.inl hb)).1, own_keep h.o2 fun b hb hl => hk b hl (h.far b (.inr (.inl hb))).1, own_keep h.o3 fun b hb hl => hk b hl (h.far b (.inr (.inr (.inl hb)))).1, own_keep h.o4 fun b hb hl => hk b hl (h.far b (.inr (.inr (.inr hb)))).1, h.dis, fun g hg => ⟨hX g (F g hg) (h.far g hg).1, (h.far g hg).2⟩, fun g t C hK => ?_⟩
  obtain ⟨k1, k2, k3, k4, k5⟩ := h.kp g t C hK
  exact ⟨k1.keep (hk g k1.lt k2), hX g k1.lt k2, k3, k4, k5⟩
theorem SvW.below (h : SvW D W0 X st w Xr xb hh ks ps gs cs u1 u2 u3 u4 Kp) {w' : World} (hb : Below w.heap.size w w') : SvW D W0 X st w' Xr xb hh ks ps gs cs u1 u2 u3 u4 Kp :=
  h.keep_ (D.below h.rep hb) (h.stp.below hb) (fun b hl _ => hb.block b hl) fun _ _ h => h
theorem SvW.step (h : SvW D W0 X st w Xr xb hh ks ps gs cs u1 u2 u3 u4 Kp) {w' : World} {X' : Nat → Prop} {st' : σ} (hr : D.Rep w' X' st') (hs : Stp w Xr w' X') : SvW D W0 X st' w' X' xb hh ks ps gs cs u1 u2 u3 u4 Kp :=
  h.keep_ hr (h.stp.trans hs) (fun b hl hn => hs.chg.block b hl hn) fun _ hl hn => hs.far hl hn
theorem SvW.size (h : SvW D W0 X st w Xr xb hh ks ps gs cs u1 u2 u3 u4 Kp) : W0.heap.size ≤ w.heap.size := h.stp.chg.size
theorem SvW.own_lt (h : SvW D W0 X st w Xr xb hh ks ps gs cs u1 u2 u3 u4 Kp) {g : Nat} (hg : ownAny u1 u2 u3 u4 g) : W0.heap.size ≤ g ∧ g < w.heap.size := by
  rcases hg with hg | hg | hg | hg
  · exact h.o1.lt g hg
  · exact h.o2.lt g hg
  · exact h.o3.lt g hg
  · exact h.o4.lt g hg
/-- A new block is kept, too. -/
theorem SvW.more (h : SvW D W0 X st w Xr xb hh ks ps gs cs u1 u2 u3 u4 Kp) (t : TypeId) (C : Array Value) : SvW D W0 X st (w.alloc (.cells C t)) Xr xb hh ks ps gs cs u1 u2 u3 u4 (fun g t' C' => Kp g t' C' ∨ (g = w.heap.size ∧ t' = t ∧ C' = C)) := by
  have h2 := h.below (below_alloc1 w (.cells C t))
  refine ⟨h2.rep, h2.stp, h2.blk, h2.hx, h2.fx, h2.o1, h2.o2, h2.o3, h2.o4, h2.dis, h2.far, fun g t' C' hK => ?_⟩
  rcases hK with hK | ⟨rfl, rfl, rfl⟩
  · exact h2.kp g t' C' hK
  · exact ⟨Blk.new _ _ _, fun hX => Nat.lt_irrefl _ (D.lt h.rep hX), fun e => Nat.lt_irrefl _ (e ▸ h.blk.lt), h.size, fun hg => Nat.lt_irrefl _ (h.own_lt hg).2⟩
theorem SvW.less (h : SvW D W0 X st w Xr xb hh ks ps gs cs u1 u2 u3 u4 Kp) {Kp' : Nat → TypeId → Array Value → Prop} (hK : ∀ g t C, Kp' g t C → Kp g t C) : SvW D W0 X st w Xr xb hh ks ps gs cs u1 u2 u3 u4 Kp' :=
  ⟨h.rep, h.stp, h.blk, h.hx, h.fx, h.o1, h.o2, h.o3, h.o4, h.dis, h.far, fun g t C hk => h.kp g t C (hK g t C hk)⟩
/-- Three cells of a kept block are written. -/
theorem SvW.three (h : SvW D W0 X st w Xr xb hh ks ps gs cs u1 u2 u3 u4 Kp) {g : Nat} {t : TypeId} {a b c : Value} (hK : Kp g t #[a, b, c]) (a' b' c' : Value) :
    ∃ s1 s2 s3, w.setCell ⟨g, 0, none⟩ a' = s1 ∧ s1.setCell ⟨g, 1, none⟩ b' = s2 ∧ s2.setCell ⟨g, 2, none⟩ c' = s3 ∧ (w.frozen? ⟨g, 0, none⟩ = false ∧ s1.frozen? ⟨g, 1, none⟩ = false ∧ s2.frozen? ⟨g, 2, none⟩ = false) ∧
      (w.cell? ⟨g, 0, none⟩ = some a ∧ s1.cell? ⟨g, 1, none⟩ = some b ∧ s2.cell? ⟨g, 2, none⟩ = some c) ∧ Blk s3 g t #[a', b', c'] ∧ SvW D W0 X st s3 Xr xb hh ks ps gs cs u1 u2 u3 u4 (fun k t' C' => (Kp k t' C' ∧ k ≠ g) ∨ (k = g ∧ t' = t ∧ C' = #[a', b', c'])) := by
  obtain ⟨k1, k2, k3, k4, k5⟩ := h.kp g t _ hK
  refine ⟨_, _, _, rfl, rfl, rfl, ?_⟩
  have r1 : Blk (w.setCell ⟨g, 0, none⟩ a') g t #[a', b, c] := k1.set_ 0 _
  have r2 : Blk ((w.setCell ⟨g, 0, none⟩ a').setCell ⟨g, 1, none⟩ b') g t #[a', b', c] := r1.set_ 1 _
  have r3 : Blk (((w.setCell ⟨g, 0, none⟩ a').setCell ⟨g, 1, none⟩ b').setCell ⟨g, 2, none⟩ c') g t #[a', b', c'] := r2.set_ 2 _
  refine ⟨⟨k1.frozen 0, r1.frozen 1, r2.frozen 2⟩, ⟨k1.cell 0, r1.cell 1, r2.cell 2⟩, r3, ?_⟩
  have hC : Chg (fun b => b = g) w (((w.setCell ⟨g, 0, none⟩ a').setCell ⟨g, 1, none⟩ b').setCell ⟨g, 2, none⟩ c') := (((Chg.refl (fun b => b = g) w).setCell (p := ⟨g, 0, none⟩) (.inl rfl) _).setCell (p := ⟨g, 1, none⟩) (.inl rfl) _).setCell (p := ⟨g, 2, none⟩) (.inl rfl) _
  obtain ⟨e1, e2⟩ := D.end_ h.rep h.stp hC fun b hb => by subst hb; exact ⟨k4, k2⟩
  have K : ∀ b, b < w.heap.size → b ≠ g → (((w.setCell ⟨g, 0, none⟩ a').setCell ⟨g, 1, none⟩ b').setCell ⟨g, 2, none⟩ c').heap[b]? = w.heap[b]? := fun b hb hn => hC.block b hb hn
  refine ⟨e1, e2, h.blk.keep (K xb h.blk.lt (Ne.symm k3)), h.hx, h.fx, own_keep h.o1 fun b hb hl => K b hl fun e => k5 (e ▸ .inl hb), own_keep h.o2 fun b hb hl => K b hl fun e => k5 (e ▸ .inr (.inl hb)), own_keep h.o3 fun b hb hl => K b hl fun e => k5 (e ▸ .inr (.inr (.inl hb))), own_keep h.o4 fun b hb hl => K b hl fun e => k5 (e ▸ .inr (.inr (.inr hb))), h.dis, h.far, fun k t' C' hk => ?_⟩
  rcases hk with ⟨hk, hn⟩ | ⟨rfl, rfl, rfl⟩
  · obtain ⟨m1, m2, m3, m4, m5⟩ := h.kp k t' C' hk
    exact ⟨m1.keep (K k m1.lt hn), m2, m3, m4, m5⟩
  · exact ⟨r3, k2, k3, k4, k5⟩
theorem SvW.put1 (h : SvW D W0 X st w Xr xb hh ks ps gs cs u1 u2 u3 u4 Kp) {w6 w7 : World} {u : Value} {k : Nat} (x : Int) (hk : ks.length = k) (hb6 : Below w.heap.size w w6) (ho : w7.ownsRow W0.heap.size 3 1 u (k + 1) (ivs ks ++ [.int .i64 x])) (hg : w6.grownBy w7 u1.ownBlock) (hb : u.ownBlock = u1.ownBlock ∨ u.ownBlock = some w6.heap.size) :
    w7.frozen? ⟨xb, 1, none⟩ = false ∧ w7.cell? ⟨xb, 1, none⟩ = some u1 ∧ SvW D W0 X st (w7.setCell ⟨xb, 1, none⟩ u) Xr xb hh (ks ++ [x]) ps gs cs u u2 u3 u4 Kp := by
  subst hk
  have hlt := h.blk.lt
  have hux : u1.ownBlock ≠ some xb := fun e => (h.far xb (.inl e)).2 rfl
  have b7 : Blk w7 xb 35 #[.int .i64 hh, u1, u2, u3, u4] := ((h.below hb6).blk).grown hg hux
  have hC : Chg (fun b => b = xb ∨ u1.ownBlock = some b) w (w7.setCell ⟨xb, 1, none⟩ u) := (((Chg.of_below _ hb6).grown hg fun k hk => .inl (.inr hk))).setCell (p := ⟨xb, 1, none⟩) (.inl (.inl rfl)) u
  obtain ⟨e1, e2⟩ := D.end_ h.rep h.stp hC fun b hb => hb.elim (fun hb => by subst hb; exact ⟨h.hx, h.fx⟩) fun hb => ⟨(h.own_lt (.inl hb)).1, (h.far b (.inl hb)).1⟩
  have K : ∀ b, b < w.heap.size → b ≠ xb → u1.ownBlock ≠ some b → (w7.setCell ⟨xb, 1, none⟩ u).heap[b]? = w.heap[b]? := fun b hl h1 h2 => hC.block b hl fun hb => hb.elim h1 h2
  have hun : ∀ g, u.ownBlock = some g → u1.ownBlock = some g ∨ w.heap.size ≤ g := fun g hg' => by
    rcases hb with e | e
    · exact .inl (e ▸ hg')
    · rw [e] at hg'; injection hg' with hg'; exact .inr (hg' ▸ hb6.size)
  have hnx : u.ownBlock ≠ some xb := fun e => (hun xb e).elim hux fun e => Nat.lt_irrefl _ (Nat.lt_of_lt_of_le hlt e)
  refine ⟨b7.frozen 1, b7.cell 1, ⟨e1, e2, b7.set_ 1 u, h.hx, h.fx, ?_, ?_, ?_, ?_, ?_, fun g hg' => ?_, fun g t C hK => ?_⟩⟩
  · rw [List.length_append, ivs_app]
    exact own_far ho hnx u
  · exact own_keep h.o2 fun b hb hl => K b hl (h.far b (.inr (.inl hb))).2 (fun e => (own_other h.o1 h.o2 (by decide)) b hb e)
  · exact own_keep h.o3 fun b hb hl => K b hl (h.far b (.inr (.inr (.inl hb)))).2 (fun e => h.dis b e hb)
  · exact own_keep h.o4 fun b hb hl => K b hl (h.far b (.inr (.inr (.inr hb)))).2 (fun e => (own_other h.o1 h.o4 (by decide)) b hb e)
  · exact fun g hg' h3 => (hun g hg').elim (fun e => h.dis g e h3) fun e => Nat.lt_irrefl _ (Nat.lt_of_lt_of_le (h.o3.lt g h3).2 e)
  · have hN : ∀ g, w.heap.size ≤ g → ¬ Xr g ∧ g ≠ xb := fun g hl => ⟨fun hX => Nat.lt_irrefl _ (Nat.lt_of_lt_of_le (D.lt h.rep hX) hl), fun e => Nat.lt_irrefl _ (Nat.lt_of_lt_of_le hlt (e ▸ hl))⟩
    rcases hg' with hg' | hg' | hg' | hg'
    · exact (hun g hg').elim (fun e => h.far g (.inl e)) (hN g)
    · exact h.far g (.inr (.inl hg'))
    · exact h.far g (.inr (.inr (.inl hg')))
    · exact h.far g (.inr (.inr (.inr hg')))
  · obtain ⟨k1, k2, k3, k4, k5⟩ := h.kp g t C hK
    refine ⟨k1.keep (K g k1.lt k3 fun e => k5 (.inl e)), k2, k3, k4, fun hg' => k5 ?_⟩
    rcases hg' with hg' | hg' | hg' | hg'
    · exact (hun g hg').elim (fun e => (.inl e)) fun e => absurd (Nat.lt_of_lt_of_le k1.lt e) (Nat.lt_irrefl _)
    · exact (.inr (.inl hg'))
    · exact (.inr (.inr (.inl hg')))
    · exact (.inr (.inr (.inr hg')))
theorem SvW.put2 (h : SvW D W0 X st w Xr xb hh ks ps gs cs u1 u2 u3 u4 Kp) {w6 w7 : World} {u : Value} {k : Nat} (x : Nd.T3) (hk : ps.length = k) (hb6 : Below w.heap.size w w6) (ho : w7.ownsRow W0.heap.size 54 3 u (k + 1) (tcs ps ++ [.int .i64 x.1, .int .i64 x.2.1, .int .i64 x.2.2])) (hg : w6.grownBy w7 u2.ownBlock) (hb : u.ownBlock = u2.ownBlock ∨ u.ownBlock = some w6.heap.size) :
    w7.frozen? ⟨xb, 2, none⟩ = false ∧ w7.cell? ⟨xb, 2, none⟩ = some u2 ∧ SvW D W0 X st (w7.setCell ⟨xb, 2, none⟩ u) Xr xb hh ks (ps ++ [x]) gs cs u1 u u3 u4 Kp := by
  subst hk
  have hlt := h.blk.lt
  have hux : u2.ownBlock ≠ some xb := fun e => (h.far xb (.inr (.inl e))).2 rfl
  have b7 : Blk w7 xb 35 #[.int .i64 hh, u1, u2, u3, u4] := ((h.below hb6).blk).grown hg hux
  have hC : Chg (fun b => b = xb ∨ u2.ownBlock = some b) w (w7.setCell ⟨xb, 2, none⟩ u) := (((Chg.of_below _ hb6).grown hg fun k hk => .inl (.inr hk))).setCell (p := ⟨xb, 2, none⟩) (.inl (.inl rfl)) u
  obtain ⟨e1, e2⟩ := D.end_ h.rep h.stp hC fun b hb => hb.elim (fun hb => by subst hb; exact ⟨h.hx, h.fx⟩) fun hb => ⟨(h.own_lt (.inr (.inl hb))).1, (h.far b (.inr (.inl hb))).1⟩
  have K : ∀ b, b < w.heap.size → b ≠ xb → u2.ownBlock ≠ some b → (w7.setCell ⟨xb, 2, none⟩ u).heap[b]? = w.heap[b]? := fun b hl h1 h2 => hC.block b hl fun hb => hb.elim h1 h2
  have hun : ∀ g, u.ownBlock = some g → u2.ownBlock = some g ∨ w.heap.size ≤ g := fun g hg' => by
    rcases hb with e | e
    · exact .inl (e ▸ hg')
    · rw [e] at hg'; injection hg' with hg'; exact .inr (hg' ▸ hb6.size)
  have hnx : u.ownBlock ≠ some xb := fun e => (hun xb e).elim hux fun e => Nat.lt_irrefl _ (Nat.lt_of_lt_of_le hlt e)
  refine ⟨b7.frozen 2, b7.cell 2, ⟨e1, e2, b7.set_ 2 u, h.hx, h.fx, ?_, ?_, ?_, ?_, ?_, fun g hg' => ?_, fun g t C hK => ?_⟩⟩
  · exact own_keep h.o1 fun b hb hl => K b hl (h.far b (.inl hb)).2 (fun e => (own_other h.o2 h.o1 (by decide)) b hb e)
  · rw [List.length_append, tcs_app]
    exact own_far ho hnx u
  · exact own_keep h.o3 fun b hb hl => K b hl (h.far b (.inr (.inr (.inl hb)))).2 (fun e => (own_other h.o2 h.o3 (by decide)) b hb e)
  · exact own_keep h.o4 fun b hb hl => K b hl (h.far b (.inr (.inr (.inr hb)))).2 (fun e => (own_other h.o2 h.o4 (by decide)) b hb e)
  · exact h.dis
  · have hN : ∀ g, w.heap.size ≤ g → ¬ Xr g ∧ g ≠ xb := fun g hl => ⟨fun hX => Nat.lt_irrefl _ (Nat.lt_of_lt_of_le (D.lt h.rep hX) hl), fun e => Nat.lt_irrefl _ (Nat.lt_of_lt_of_le hlt (e ▸ hl))⟩
    rcases hg' with hg' | hg' | hg' | hg'
    · exact h.far g (.inl hg')
    · exact (hun g hg').elim (fun e => h.far g (.inr (.inl e))) (hN g)
    · exact h.far g (.inr (.inr (.inl hg')))
    · exact h.far g (.inr (.inr (.inr hg')))
  · obtain ⟨k1, k2, k3, k4, k5⟩ := h.kp g t C hK
    refine ⟨k1.keep (K g k1.lt k3 fun e => k5 (.inr (.inl e))), k2, k3, k4, fun hg' => k5 ?_⟩
    rcases hg' with hg' | hg' | hg' | hg'
    · exact (.inl hg')
    · exact (hun g hg').elim (fun e => (.inr (.inl e))) fun e => absurd (Nat.lt_of_lt_of_le k1.lt e) (Nat.lt_irrefl _)
    · exact (.inr (.inr (.inl hg')))
    · exact (.inr (.inr (.inr hg')))
theorem SvW.put3 (h : SvW D W0 X st w Xr xb hh ks ps gs cs u1 u2 u3 u4 Kp) {w6 w7 : World} {u : Value} {k : Nat} (x : Int) (hk : gs.length = k) (hb6 : Below w.heap.size w w6) (ho : w7.ownsRow W0.heap.size 3 1 u (k + 1) (ivs gs ++ [.int .i64 x])) (hg : w6.grownBy w7 u3.ownBlock) (hb : u.ownBlock = u3.ownBlock ∨ u.ownBlock = some w6.heap.size) :
    w7.frozen? ⟨xb, 3, none⟩ = false ∧ w7.cell? ⟨xb, 3, none⟩ = some u3 ∧ SvW D W0 X st (w7.setCell ⟨xb, 3, none⟩ u) Xr xb hh ks ps (gs ++ [x]) cs u1 u2 u u4 Kp := by
  subst hk
  have hlt := h.blk.lt
  have hux : u3.ownBlock ≠ some xb := fun e => (h.far xb (.inr (.inr (.inl e)))).2 rfl
  have b7 : Blk w7 xb 35 #[.int .i64 hh, u1, u2, u3, u4] := ((h.below hb6).blk).grown hg hux
  have hC : Chg (fun b => b = xb ∨ u3.ownBlock = some b) w (w7.setCell ⟨xb, 3, none⟩ u) := (((Chg.of_below _ hb6).grown hg fun k hk => .inl (.inr hk))).setCell (p := ⟨xb, 3, none⟩) (.inl (.inl rfl)) u
  obtain ⟨e1, e2⟩ := D.end_ h.rep h.stp hC fun b hb => hb.elim (fun hb => by subst hb; exact ⟨h.hx, h.fx⟩) fun hb => ⟨(h.own_lt (.inr (.inr (.inl hb)))).1, (h.far b (.inr (.inr (.inl hb)))).1⟩
  have K : ∀ b, b < w.heap.size → b ≠ xb → u3.ownBlock ≠ some b → (w7.setCell ⟨xb, 3, none⟩ u).heap[b]? = w.heap[b]? := fun b hl h1 h2 => hC.block b hl fun hb => hb.elim h1 h2
  have hun : ∀ g, u.ownBlock = some g → u3.ownBlock = some g ∨ w.heap.size ≤ g := fun g hg' => by
    rcases hb with e | e
    · exact .inl (e ▸ hg')
    · rw [e] at hg'; injection hg' with hg'; exact .inr (hg' ▸ hb6.size)
  have hnx : u.ownBlock ≠ some xb := fun e => (hun xb e).elim hux fun e => Nat.lt_irrefl _ (Nat.lt_of_lt_of_le hlt e)
  refine ⟨b7.frozen 3, b7.cell 3, ⟨e1, e2, b7.set_ 3 u, h.hx, h.fx, ?_, ?_, ?_, ?_, ?_, fun g hg' => ?_, fun g t C hK => ?_⟩⟩
  · exact own_keep h.o1 fun b hb hl => K b hl (h.far b (.inl hb)).2 (fun e => h.dis b hb e)
  · exact own_keep h.o2 fun b hb hl => K b hl (h.far b (.inr (.inl hb))).2 (fun e => (own_other h.o3 h.o2 (by decide)) b hb e)
  · rw [List.length_append, ivs_app]
    exact own_far ho hnx u
  · exact own_keep h.o4 fun b hb hl => K b hl (h.far b (.inr (.inr (.inr hb)))).2 (fun e => (own_other h.o3 h.o4 (by decide)) b hb e)
  · exact fun g hg' h3 => (hun g h3).elim (fun e => h.dis g hg' e) fun e => Nat.lt_irrefl _ (Nat.lt_of_lt_of_le (h.o1.lt g hg').2 e)
  · have hN : ∀ g, w.heap.size ≤ g → ¬ Xr g ∧ g ≠ xb := fun g hl => ⟨fun hX => Nat.lt_irrefl _ (Nat.lt_of_lt_of_le (D.lt h.rep hX) hl), fun e => Nat.lt_irrefl _ (Nat.lt_of_lt_of_le hlt (e ▸ hl))⟩
    rcases hg' with hg' | hg' | hg' | hg'
    · exact h.far g (.inl hg')
    · exact h.far g (.inr (.inl hg'))
    · exact (hun g hg').elim (fun e => h.far g (.inr (.inr (.inl e)))) (hN g)
    · exact h.far g (.inr (.inr (.inr hg')))
  · obtain ⟨k1, k2, k3, k4, k5⟩ := h.kp g t C hK
    refine ⟨k1.keep (K g k1.lt k3 fun e => k5 (.inr (.inr (.inl e)))), k2, k3, k4, fun hg' => k5 ?_⟩
    rcases hg' with hg' | hg' | hg' | hg'
    · exact (.inl hg')
    · exact (.inr (.inl hg'))
    · exact (hun g hg').elim (fun e => (.inr (.inr (.inl e)))) fun e => absurd (Nat.lt_of_lt_of_le k1.lt e) (Nat.lt_irrefl _)
    · exact (.inr (.inr (.inr hg')))
theorem SvW.put4 (h : SvW D W0 X st w Xr xb hh ks ps gs cs u1 u2 u3 u4 Kp) {w6 w7 : World} {u : Value} {k : Nat} (x : Nd.T3) (hk : cs.length = k) (hb6 : Below w.heap.size w w6) (ho : w7.ownsRow W0.heap.size 58 3 u (k + 1) (tcs cs ++ [.int .i64 x.1, .int .i64 x.2.1, .int .i64 x.2.2])) (hg : w6.grownBy w7 u4.ownBlock) (hb : u.ownBlock = u4.ownBlock ∨ u.ownBlock = some w6.heap.size) :
    w7.frozen? ⟨xb, 4, none⟩ = false ∧ w7.cell? ⟨xb, 4, none⟩ = some u4 ∧ SvW D W0 X st (w7.setCell ⟨xb, 4, none⟩ u) Xr xb hh ks ps gs (cs ++ [x]) u1 u2 u3 u Kp := by
  subst hk
  have hlt := h.blk.lt
  have hux : u4.ownBlock ≠ some xb := fun e => (h.far xb (.inr (.inr (.inr e)))).2 rfl
  have b7 : Blk w7 xb 35 #[.int .i64 hh, u1, u2, u3, u4] := ((h.below hb6).blk).grown hg hux
  have hC : Chg (fun b => b = xb ∨ u4.ownBlock = some b) w (w7.setCell ⟨xb, 4, none⟩ u) := (((Chg.of_below _ hb6).grown hg fun k hk => .inl (.inr hk))).setCell (p := ⟨xb, 4, none⟩) (.inl (.inl rfl)) u
  obtain ⟨e1, e2⟩ := D.end_ h.rep h.stp hC fun b hb => hb.elim (fun hb => by subst hb; exact ⟨h.hx, h.fx⟩) fun hb => ⟨(h.own_lt (.inr (.inr (.inr hb)))).1, (h.far b (.inr (.inr (.inr hb)))).1⟩
  have K : ∀ b, b < w.heap.size → b ≠ xb → u4.ownBlock ≠ some b → (w7.setCell ⟨xb, 4, none⟩ u).heap[b]? = w.heap[b]? := fun b hl h1 h2 => hC.block b hl fun hb => hb.elim h1 h2
  have hun : ∀ g, u.ownBlock = some g → u4.ownBlock = some g ∨ w.heap.size ≤ g := fun g hg' => by
    rcases hb with e | e
    · exact .inl (e ▸ hg')
    · rw [e] at hg'; injection hg' with hg'; exact .inr (hg' ▸ hb6.size)
  have hnx : u.ownBlock ≠ some xb := fun e => (hun xb e).elim hux fun e => Nat.lt_irrefl _ (Nat.lt_of_lt_of_le hlt e)
  refine ⟨b7.frozen 4, b7.cell 4, ⟨e1, e2, b7.set_ 4 u, h.hx, h.fx, ?_, ?_, ?_, ?_, ?_, fun g hg' => ?_, fun g t C hK => ?_⟩⟩
  · exact own_keep h.o1 fun b hb hl => K b hl (h.far b (.inl hb)).2 (fun e => (own_other h.o4 h.o1 (by decide)) b hb e)
  · exact own_keep h.o2 fun b hb hl => K b hl (h.far b (.inr (.inl hb))).2 (fun e => (own_other h.o4 h.o2 (by decide)) b hb e)
  · exact own_keep h.o3 fun b hb hl => K b hl (h.far b (.inr (.inr (.inl hb)))).2 (fun e => (own_other h.o4 h.o3 (by decide)) b hb e)
  · rw [List.length_append, tcs_app]
    exact own_far ho hnx u
  · exact h.dis
  · have hN : ∀ g, w.heap.size ≤ g → ¬ Xr g ∧ g ≠ xb := fun g hl => ⟨fun hX => Nat.lt_irrefl _ (Nat.lt_of_lt_of_le (D.lt h.rep hX) hl), fun e => Nat.lt_irrefl _ (Nat.lt_of_lt_of_le hlt (e ▸ hl))⟩
    rcases hg' with hg' | hg' | hg' | hg'
    · exact h.far g (.inl hg')
    · exact h.far g (.inr (.inl hg'))
    · exact h.far g (.inr (.inr (.inl hg')))
    · exact (hun g hg').elim (fun e => h.far g (.inr (.inr (.inr e)))) (hN g)
  · obtain ⟨k1, k2, k3, k4, k5⟩ := h.kp g t C hK
    refine ⟨k1.keep (K g k1.lt k3 fun e => k5 (.inr (.inr (.inr e)))), k2, k3, k4, fun hg' => k5 ?_⟩
    rcases hg' with hg' | hg' | hg' | hg'
    · exact (.inl hg')
    · exact (.inr (.inl hg'))
    · exact (.inr (.inr (.inl hg')))
    · exact (hun g hg').elim (fun e => (.inr (.inr (.inr e)))) fun e => absurd (Nat.lt_of_lt_of_le k1.lt e) (Nat.lt_irrefl _)
/-- The node's value may be read whatever becomes of the store. -/
theorem SvW.ndx (h : SvW D W0 X st w Xr xb hh ks ps gs cs u1 u2 u3 u4 Kp) {k1 k2 k3 k4 : Nat} (hk1 : ks.length = k1) (hk2 : ps.length = k2) (hk3 : gs.length = k3) (hk4 : cs.length = k4) : ∃ A1 c1 A2 c2 A3 c3 A4 c4, u1 = .slice A1 k1 c1 ∧ u2 = .slice A2 k2 c2 ∧ u3 = .slice A3 k3 c3 ∧ u4 = .slice A4 k4 c4 ∧ NdX Xr w (.agg #[.int .i64 hh, u1, u2, u3, u4]) ⟨hh, ks, ps, gs, cs⟩ := by
  subst hk1
  subst hk2
  subst hk3
  subst hk4
  obtain ⟨A1, c1, e1⟩ := own_slice h.o1
  obtain ⟨A2, c2, e2⟩ := own_slice h.o2
  obtain ⟨A3, c3, e3⟩ := own_slice h.o3
  obtain ⟨A4, c4, e4⟩ := own_slice h.o4
  refine ⟨A1, c1, A2, c2, A3, c3, A4, c4, e1, e2, e3, e4, fun v q => ?_⟩
  have p1 := own_keep (w' := v) h.o1 fun b hb hl => q.block b hl (h.far b (.inl hb)).1
  have p2 := own_keep (w' := v) h.o2 fun b hb hl => q.block b hl (h.far b (.inr (.inl hb))).1
  have p3 := own_keep (w' := v) h.o3 fun b hb hl => q.block b hl (h.far b (.inr (.inr (.inl hb)))).1
  have p4 := own_keep (w' := v) h.o4 fun b hb hl => q.block b hl (h.far b (.inr (.inr (.inr hb)))).1
  subst e1
  subst e2
  subst e3
  subst e4
  exact ⟨A1, c1, A2, c2, A3, c3, A4, c4, rfl, ⟨own_len p1, own_none p1, own_slW' p1⟩, ⟨own_len p2, own_none p2, own_slW' p2⟩, ⟨own_len p3, own_none p3, own_slW' p3⟩, ⟨own_len p4, own_none p4, own_slW' p4⟩⟩
end
theorem sl_1 {w : World} {a : Value} {t : TypeId} : Sl (w.alloc (.cells #[a] t)) (w.heap.size + 1) (some ⟨w.heap.size, 0, none⟩) [a] := .inr ⟨w.heap.size, 0, rfl, by omega, fun i hi => by
  have : i = 0 := by have : i < 1 := hi; omega
  subst this
  exact (Blk.new w t _).cell _⟩
theorem sl_3 {w : World} {a b c : Value} {t : TypeId} : Sl (w.alloc (.cells #[a, b, c] t)) (w.heap.size + 1) (some ⟨w.heap.size, 0, none⟩) [a, b, c] := .inr ⟨w.heap.size, 0, rfl, by omega, fun i hi => by
  have : i < 3 := hi
  have : i = 0 ∨ i = 1 ∨ i = 2 := by omega
  rcases this with rfl | rfl | rfl <;> exact (Blk.new w t _).cell _⟩
end Go.Proofs.Ytlcchefiicalpaa
namespace Go.Proofs.Ytlcchefiicalpaa
open Go.RowKit
namespace Tr
def skCat {σ : Type} (done : List Nd.T3) (r : Res σ (List Nd.T3)) : Res σ (List Nd.T3) := match r with
  | (st, .error e) => (st, .error e)
  | (st, .ok ks) => (st, .ok (done ++ ks))
theorem skCat_nil {σ : Type} (r : Res σ (List Nd.T3)) : skCat [] r = r := by rcases r with ⟨s, er | l⟩ <;> rfl
theorem skCat_end {σ : Type} {h : Nat} {sv : σ → List (Pt h) → Res σ Nd.T3} {st : σ} {done : List Nd.T3} : skCat done (saveKids sv [] st) = (st, .ok done) := by simp [saveKids, skCat]
theorem skCat_old {σ : Type} {h : Nat} {sv : σ → List (Pt h) → Res σ Nd.T3} {st : σ} {done : List Nd.T3} {b : Br} {l : List (Pt (h + 1))} : skCat done (saveKids sv (old b :: l) st) = skCat (done ++ [b.k]) (saveKids sv l st) := by
  show skCat done (saveKids sv (Sum.inl b :: l) st) = _
  rw [saveKids]
  rcases saveKids sv l st with ⟨s, er | ks⟩ <;> simp [skCat]
theorem skCat_err {σ : Type} {h : Nat} {sv : σ → List (Pt h) → Res σ Nd.T3} {st s2 : σ} {done : List Nd.T3} {p : List (Pt h)} {l : List (Pt (h + 1))} {er : Int} (hp : sv st p = (s2, .error er)) : skCat done (saveKids sv (frs p :: l) st) = (s2, .error er) := by
  show skCat done (saveKids sv (Sum.inr p :: l) st) = _
  rw [saveKids, hp]
  rfl
theorem skCat_frs {σ : Type} {h : Nat} {sv : σ → List (Pt h) → Res σ Nd.T3} {st s2 : σ} {done : List Nd.T3} {p : List (Pt h)} {l : List (Pt (h + 1))} {k : Nd.T3} (hp : sv st p = (s2, .ok k)) : skCat done (saveKids sv (frs p :: l) st) = skCat (done ++ [k]) (saveKids sv l s2) := by
  show skCat done (saveKids sv (Sum.inr p :: l) st) = _
  rw [saveKids, hp]
  dsimp only
  rcases saveKids sv l s2 with ⟨s, er | ks⟩ <;> simp [skCat]
end Tr
section
variable {σ : Type} (D : StoI σ)
/-- What save answers. -/
def SvR (w : World) (X : Nat → Prop) (st' : σ) (r : Except Int Nd.T3) (e : Ending) (w' : World) : Prop := StR σ D.Rep w X st' (fun _ _ => match r with
    | .error er => er ≠ 0 ∧ ∃ k, e = .returned (.tuple #[Tr.kidV k, .int .i64 er])
    | .ok k => e = .returned (.tuple #[Tr.kidV k, .int .i64 0])) w'
def SvC (h : Nat) : Prop := ∀ {w : World} {X : Nat → Prop} {st : σ} {l : List (Tr.Pt h)} {A : Option Addr} {c : Nat}, D.Rep w X st → PLX X w h l A c → Tr.Wfs l → Tr.wts l ≤ 1000000 →
  Calls Try.prog 86 #[D.val, .slice A l.length c, .int .i64 (h : Int)] w (SvR D w X (Tr.save D.S h st l).1 (Tr.save D.S h st l).2)
theorem saveN_no {st : σ} {n : Nd.N} (h : ¬ Nd.Ok n) : Tr.saveN D.S st n = (st, .error 4) := by unfold Tr.saveN; rw [if_neg h]
theorem saveN_yes {st : σ} {n : Nd.N} (h : Nd.Ok n) : Tr.saveN D.S st n = D.S.sv st n := by unfold Tr.saveN; rw [if_pos h]
theorem sv_start {w : World} {X : Nat → Prop} {st : σ} (hr : D.Rep w X st) {W : World} {hh : Int} {rb xb : Nat} (hrb : w.heap.size = rb) (hxb : rb + 1 = xb) (hW : (w.alloc (.cells #[.int .i64 0, .int .i64 0, .int .i64 0] 58)).alloc (.cells #[.int .i64 hh, .slice none 0 0, .slice none 0 0, .slice none 0 0, .slice none 0 0] 35) = W) :
    SvW D w X st W X xb hh [] [] [] [] (.slice none 0 0) (.slice none 0 0) (.slice none 0 0) (.slice none 0 0) (fun g t C => g = rb ∧ t = 58 ∧ C = #[.int .i64 0, .int .i64 0, .int .i64 0]) := by
  have hb1 := below_alloc1 w (.cells #[.int .i64 0, .int .i64 0, .int .i64 0] 58)
  have hb2 := below_alloc1 (w.alloc (.cells #[.int .i64 0, .int .i64 0, .int .i64 0] 58)) (.cells #[.int .i64 hh, .slice none 0 0, .slice none 0 0, .slice none 0 0, .slice none 0 0] 35)
  rw [hW] at hb2
  have hs1 : (w.alloc (.cells #[.int .i64 0, .int .i64 0, .int .i64 0] 58)).heap.size = xb := by rw [← hxb, ← hrb]; simp
  have k1 : Blk (w.alloc (.cells #[.int .i64 0, .int .i64 0, .int .i64 0] 58)) rb 58 #[.int .i64 0, .int .i64 0, .int .i64 0] := by rw [← hrb]; exact Blk.new _ _ _
  have bx : Blk W xb 35 #[.int .i64 hh, .slice none 0 0, .slice none 0 0, .slice none 0 0, .slice none 0 0] := by rw [← hW, ← hs1]; exact Blk.new _ _ _
  have hno : ∀ g, ¬ ownAny (.slice none 0 0) (.slice none 0 0) (.slice none 0 0) (.slice none 0 0) g := fun g hg => by simp [ownAny, Value.ownBlock] at hg
  exact ⟨D.below (D.below hr hb1) hb2, (Stp.of_below X hb1).below hb2, bx, by omega, fun hX => by have := D.lt hr hX; omega, World.ownsRow_nil _ _ _ _, World.ownsRow_nil _ _ _ _, World.ownsRow_nil _ _ _ _, World.ownsRow_nil _ _ _ _, (fun g hg => by simp [Value.ownBlock] at hg), fun g hg => absurd hg (hno g), fun g t C hK => by
    obtain ⟨rfl, rfl, rfl⟩ := hK
    exact ⟨k1.keep (hb2.block _ k1.lt), fun hX => by have := D.lt hr hX; omega, by omega, by omega, hno _⟩⟩
theorem five {w : World} {xb : Nat} {a b c d e : Value} (h : Blk w xb 35 #[a, b, c, d, e]) : w.cell? ⟨xb, 0, none⟩ = some a ∧ w.cell? ⟨xb, 1, none⟩ = some b ∧ w.cell? ⟨xb, 2, none⟩ = some c ∧ w.cell? ⟨xb, 3, none⟩ = some d ∧ w.cell? ⟨xb, 4, none⟩ = some e := ⟨h.cell 0, h.cell 1, h.cell 2, h.cell 3, h.cell 4⟩
theorem three_ {w : World} {xb : Nat} {t : TypeId} {a b c : Value} (h : Blk w xb t #[a, b, c]) : w.cell? ⟨xb, 0, none⟩ = some a ∧ w.cell? ⟨xb, 1, none⟩ = some b ∧ w.cell? ⟨xb, 2, none⟩ = some c := ⟨h.cell 0, h.cell 1, h.cell 2⟩
set_option maxRecDepth 8000 in
set_option maxHeartbeats 16000000 in
theorem save_zero : SvC D 0 := by
  intro w X st l A c hr hl hw hwt
  obtain ⟨i1, hi1, hz1, hs1, hb1'⟩ := nint_parts
  obtain ⟨i2, hi2, hz2, hs2, hb2'⟩ := nplace_parts
  obtain ⟨d0, hd0, hd1⟩ := part_row
  have hlen := hw.len
  obtain ⟨L, hL⟩ : ∃ L : List Tr.E, L = l := ⟨l, rfl⟩
  obtain ⟨n, hn⟩ : ∃ n, L.length = n := ⟨_, rfl⟩
  have hn' : @List.length (Tr.Pt 0) l = n := by rw [← hL]; exact hn
  have few : n ≤ 1000000 := by omega
  have HU := Lib.hid (show Fast X w fun u => SlC u u.heap.size A c n (pcs (L.map pcE)) from by subst hL; exact hn ▸ plx_E hl)
  obtain ⟨RR, hRR⟩ : ∃ R, Tr.save D.S 0 st l = R := ⟨_, rfl⟩
  have HF := Lib.hid (show RR = Tr.saveN D.S st (Tr.leafN L) from by rw [← hRR, hL]; rfl)
  rw [hn', hRR]
  have Hn := Lib.hid hn
  obtain ⟨z, hz⟩ : ∃ z : Int, z = 0 := ⟨_, rfl⟩
  have zz : ((z : Int) == 0) = true := by rw [hz]; rfl
  have Hz := Lib.hid hz
  have Hr := Lib.hid hr
  obtain ⟨rb, hrb⟩ : ∃ r, w.heap.size = r := ⟨_, rfl⟩
  obtain ⟨xb, hxb⟩ : ∃ r, rb + 1 = r := ⟨_, rfl⟩
  have Hrb := Lib.hid hrb
  have Hxb := Lib.hid hxb
  clear hl hw hwt hlen hL hn' hRR hn hr l
  show Calls Try.prog 86 #[D.val, .slice A n c, .int .i64 0] w (SvR D w X RR.1 RR.2)
  rw [← hz]
  clear hz
  have HLd := D.hS
  have HEd := D.eS
  unfold StoI.val
  go_enter Try.func86, Try.ntmps86
  go_wp2_with fail
  obtain ⟨W, hW⟩ : ∃ W, (w.alloc (.cells #[.int .i64 0, .int .i64 0, .int .i64 0] 58)).alloc (.cells #[.int .i64 z, .slice none 0 0, .slice none 0 0, .slice none 0 0, .slice none 0 0] 35) = W := ⟨_, rfl⟩
  rw [hW]
  have H0 := Lib.hid (sv_start D Hr.out Hrb.out Hxb.out hW)
  clear hW
  go_loopw [17] (fun v17 wr => ∃ (i : Nat) (u1 u2 u3 : Value), v17 = .int .i64 (i : Int) ∧ i ≤ n ∧ SvW D w X st wr X xb z ((L.take i).map (·.k)) ((L.take i).map (·.p)) ((L.take i).map (·.g)) [] u1 u2 u3 (.slice none 0 0) (fun g t C => g = rb ∧ t = 58 ∧ C = #[.int .i64 0, .int .i64 0, .int .i64 0])) (fun v17 _ => n - (intOf v17).toNat)
  case atStart => exact ⟨0, _, _, _, rfl, Nat.zero_le _, H0.out⟩
  case round =>
    obtain ⟨i, u1, u2, u3, rfl, hi, hS⟩ := hrel
    clear H0 hrb hxb
    have hl1 : ((L.take i).map (·.k)).length = i := by rw [List.length_map, List.length_take, Hn.out, Nat.min_eq_left hi]
    have hl2 : ((L.take i).map (·.p)).length = i := by rw [List.length_map, List.length_take, Hn.out, Nat.min_eq_left hi]
    have hl3 : ((L.take i).map (·.g)).length = i := by rw [List.length_map, List.length_take, Hn.out, Nat.min_eq_left hi]
    have HS := Lib.hid hS
    by_cases hik : i < n
    · have y0 : decide ((i : Int) < (n : Int)) = true := by rw [decide_eq_true_eq]; omega
      have y0' : decide (i < n) = true := by rw [decide_eq_true_eq]; exact hik
      have y1 : (i : Int) < (n : Int) := by omega
      have Wi : wrap64 ((i : Int) + 1) = (i : Int) + 1 := by simp only [wrap64]; omega
      obtain ⟨A1, c1, rfl⟩ := own_slice (hl1 ▸ hS.o1)
      obtain ⟨A2, c2, rfl⟩ := own_slice (hl2 ▸ hS.o2)
      obtain ⟨A3, c3, rfl⟩ := own_slice (hl3 ▸ hS.o3)
      obtain ⟨e, he⟩ : ∃ e, L[i]? = some e := ⟨_, List.getElem?_eq_getElem (by rw [Hn.out]; exact hik)⟩
      obtain ⟨lb, lo', rfl, hlb, rg⟩ := (HU.out wr hS.stp.chg).sl.range (i := i) (x := pcE e) (by rw [List.getElem?_map, he]; rfl)
      have Nx := Lib.hid (show L.take (i + 1) = L.take i ++ [e] by rw [List.take_add_one, he]; rfl)
      obtain ⟨ek, ⟨e1, e2, e3⟩, eg⟩ := e
      dsimp only [pc1, pcs, pcE, Tr.z, Tr.bz] at rg
      have Hik := Lib.hid hik
      obtain ⟨xq, hxq⟩ : ∃ x, wr.heap.size = x := ⟨_, rfl⟩
      have Hxq := Lib.hid hxq
      clear he hlb hS hi hik
      go_upto_region 5 with ((with_reducible show wpList _ _ _ (⟨some 20, Op.load 160 _, _, _, _, _⟩ :: _) _ _); refine wpList_load_mid rfl 160 _ rfl lb (lo' + i * 14) rfl [.int .i64 ek, .int .i64 ek, .int .i64 e1, .int .i64 e2, .int .i64 e3, .int .i64 eg, .int .i64 0, .int .i64 0, .int .i64 0, .int .i64 0, .int .i64 0, .int .i64 0, .bool false, .slice none 0 0] d0 rg hd0 hd1 part_size ?_)
      obtain ⟨W1, hW1⟩ : ∃ W, wr.alloc (.cells #[.int .i64 ek, .int .i64 ek, .int .i64 e1, .int .i64 e2, .int .i64 e3, .int .i64 eg, .int .i64 0, .int .i64 0, .int .i64 0, .int .i64 0, .int .i64 0, .int .i64 0, .bool false, .slice none 0 0] 160) = W := ⟨_, rfl⟩
      rw [hW1]
      have S1 := Lib.hid (show SvW D w X st W1 X xb z ((L.take i).map (·.k)) ((L.take i).map (·.p)) ((L.take i).map (·.g)) [] (.slice A1 i c1) (.slice A2 i c2) (.slice A3 i c3) (.slice none 0 0) (fun g t C => (fun g t C => g = rb ∧ t = 58 ∧ C = #[.int .i64 0, .int .i64 0, .int .i64 0]) g t C ∨ (g = xq ∧ t = 160 ∧ C = #[.int .i64 ek, .int .i64 ek, .int .i64 e1, .int .i64 e2, .int .i64 e3, .int .i64 eg, .int .i64 0, .int .i64 0, .int .i64 0, .int .i64 0, .int .i64 0, .int .i64 0, .bool false, .slice none 0 0])) from by
        have := HS.out.more 160 #[.int .i64 ek, .int .i64 ek, .int .i64 e1, .int .i64 e2, .int .i64 e3, .int .i64 eg, .int .i64 0, .int .i64 0, .int .i64 0, .int .i64 0, .int .i64 0, .int .i64 0, .bool false, .slice none 0 0]
        rw [hW1, Hxq.out] at this
        exact this)
      obtain ⟨-, v1, -, -, -⟩ := five S1.out.blk
      have q0 := (S1.out.kp xq 160 #[.int .i64 ek, .int .i64 ek, .int .i64 e1, .int .i64 e2, .int .i64 e3, .int .i64 eg, .int .i64 0, .int .i64 0, .int .i64 0, .int .i64 0, .int .i64 0, .int .i64 0, .bool false, .slice none 0 0] (.inr ⟨rfl, rfl, rfl⟩)).1.cell 0
      clear hW1
      go_wp2_with (first
        | (at_builtin; refine wpList_append_sls (base := w.heap.size) _ rfl (.tmp 22) (.tmp 25) _ rfl Try.underlying22 hi1 hz1 hs1 hb1' rfl (by decide) rfl (hl1 ▸ (S1.out.below (below_alloc1 _ _)).o1) (m := 1) (news := [.int .i64 ek]) rfl rfl (by simp) (Nat.le_refl _) sl_1 (by simp [Value.oneCell']) (by unfold maxLen; omega) (by omega) (S1.out.below (below_alloc1 _ _)).size ?_; intro v7 w7 h1 h2 h3; (obtain ⟨A7, c7, rfl⟩ := own_slice h1); (obtain ⟨fz1, cz1, S2⟩ := S1.out.put1 ek hl1 (below_alloc1 _ _) h1 h2 h3); (obtain ⟨W2, hW2⟩ : ∃ W, w7.setCell ⟨xb, 1, none⟩ (.slice A7 (i + 1) c7) = W := ⟨_, rfl⟩); rw [hW2] at S2; (have S2 := Lib.hid S2); (obtain ⟨-, -, p2, -, -⟩ := five S2.out.blk); (have p5 := (S2.out.kp xq 160 #[.int .i64 ek, .int .i64 ek, .int .i64 e1, .int .i64 e2, .int .i64 e3, .int .i64 eg, .int .i64 0, .int .i64 0, .int .i64 0, .int .i64 0, .int .i64 0, .int .i64 0, .bool false, .slice none 0 0] (.inr ⟨rfl, rfl, rfl⟩)).1.cell 2); (have p6 := (S2.out.kp xq 160 #[.int .i64 ek, .int .i64 ek, .int .i64 e1, .int .i64 e2, .int .i64 e3, .int .i64 eg, .int .i64 0, .int .i64 0, .int .i64 0, .int .i64 0, .int .i64 0, .int .i64 0, .bool false, .slice none 0 0] (.inr ⟨rfl, rfl, rfl⟩)).1.cell 3); (have p7 := (S2.out.kp xq 160 #[.int .i64 ek, .int .i64 ek, .int .i64 e1, .int .i64 e2, .int .i64 e3, .int .i64 eg, .int .i64 0, .int .i64 0, .int .i64 0, .int .i64 0, .int .i64 0, .int .i64 0, .bool false, .slice none 0 0] (.inr ⟨rfl, rfl, rfl⟩)).1.cell 4); clear h1 h2 h3)
        | (at_builtin; refine wpList_append_sls (base := w.heap.size) _ rfl (.tmp 31) (.tmp 35) _ rfl Try.underlying23 hi2 hz2 hs2 hb2' rfl (by decide) rfl (hl2 ▸ (S2.out.below (below_alloc1 _ _)).o2) (m := 1) (news := [.int .i64 e1, .int .i64 e2, .int .i64 e3]) rfl rfl (by simp) (Nat.le_refl _) sl_3 (by simp [Value.oneCell']) (by unfold maxLen; omega) (by omega) (S2.out.below (below_alloc1 _ _)).size ?_; intro v8 w8 h1 h2 h3; (obtain ⟨A8, c8, rfl⟩ := own_slice h1); (obtain ⟨fz2, cz2, S3⟩ := S2.out.put2 (e1, e2, e3) hl2 (below_alloc1 _ _) h1 h2 h3); (obtain ⟨W3, hW3⟩ : ∃ W, w8.setCell ⟨xb, 2, none⟩ (.slice A8 (i + 1) c8) = W := ⟨_, rfl⟩); rw [hW3] at S3; (have S3 := Lib.hid S3); (obtain ⟨-, -, -, p8, -⟩ := five S3.out.blk); (have p9 := (S3.out.kp xq 160 #[.int .i64 ek, .int .i64 ek, .int .i64 e1, .int .i64 e2, .int .i64 e3, .int .i64 eg, .int .i64 0, .int .i64 0, .int .i64 0, .int .i64 0, .int .i64 0, .int .i64 0, .bool false, .slice none 0 0] (.inr ⟨rfl, rfl, rfl⟩)).1.cell 5); clear h1 h2 h3)
        | (at_builtin; refine wpList_append_sls (base := w.heap.size) _ rfl (.tmp 39) (.tmp 43) _ rfl Try.underlying22 hi1 hz1 hs1 hb1' rfl (by decide) rfl (hl3 ▸ (S3.out.below (below_alloc1 _ _)).o3) (m := 1) (news := [.int .i64 eg]) rfl rfl (by simp) (Nat.le_refl _) sl_1 (by simp [Value.oneCell']) (by unfold maxLen; omega) (by omega) (S3.out.below (below_alloc1 _ _)).size ?_; intro v9 w9 h1 h2 h3; (obtain ⟨A9, c9, rfl⟩ := own_slice h1); (obtain ⟨fz3, cz3, S4⟩ := S3.out.put3 eg hl3 (below_alloc1 _ _) h1 h2 h3); (obtain ⟨W4, hW4⟩ : ∃ W, w9.setCell ⟨xb, 3, none⟩ (.slice A9 (i + 1) c9) = W := ⟨_, rfl⟩); rw [hW4] at S4; (have S4 := Lib.hid S4); clear h1 h2 h3))
      go_roundw
      case rel => exact ⟨i + 1, _, _, _, by go_num, Hik.out, by
        rw [Nx.out, List.map_append, List.map_append, List.map_append]
        exact S4.out.less fun g t C hK => .inl hK⟩
      case measure => exact meas_up Hik.out
    · obtain rfl : i = n := by omega
      have y0 : decide ((i : Int) < (i : Int)) = false := by rw [decide_eq_false_iff_not]; omega
      have y0' : decide (i < i) = false := by rw [decide_eq_false_iff_not]; omega
      have hall : L.take i = L := List.take_of_length_le (by rw [Hn.out]; exact Nat.le_refl _)
      obtain ⟨sr, hsr⟩ : ∃ s, s = st := ⟨_, rfl⟩
      rw [← hsr] at HF HS
      rw [hall] at HS
      rw [hall] at hl1 hl2 hl3
      obtain ⟨A1, c1, A2, c2, A3, c3, A4, c4, rfl, rfl, rfl, -, hnd⟩ := HS.out.ndx hl1 hl2 hl3 (k4 := 0) rfl
      rw [show (⟨z, L.map (·.k), L.map (·.p), L.map (·.g), []⟩ : Nd.N) = Tr.leafN L by rw [Hz.out]; rfl] at hnd
      clear hall hl1 hl2 hl3 hik hi hS hsr
      have HNd := Lib.hid hnd
      clear hnd
      obtain ⟨y0, y1, y2, y3, y4⟩ := five HS.out.blk
      by_cases hok : Nd.Ok (Tr.leafN L)
      · have Hok := Lib.hid hok
        have Fin := Lib.hid (HF.out.trans (saveN_yes D hok))
        clear hok HF
        rcases hsv : D.S.sv sr (Tr.leafN L) with ⟨s9, er9 | k9⟩
        · have her := D.errS (st := sr) (n := (Tr.leafN L)) (e := er9) (by rw [hsv])
          have Her := Lib.hid her
          have Hsv := Lib.hid hsv
          clear hsv her
          go_wp2_with (first
            | (go_at_call 22; refine (may_any HNd.out.now true ⟨fun _ => Hok.out, fun _ => rfl⟩).mono ?_; rintro e w4 ⟨rfl, hb4⟩; (have S4 := Lib.hid (HS.out.below hb4)); (obtain ⟨z0, z1, z2, z3, z4⟩ := five S4.out.blk); (have N4 := HNd.out.below hb4); (have HSv := D.save S4.out.rep N4 Hok.out); rw [Hsv.out] at HSv; dsimp only at HSv; clear N4 hb4; skip)
            | ((with_reducible refine HSv.mono ?_); rintro e w9 ⟨X9, hR9, hS9, k, c9, rfl, rfl⟩; (have S9 := Lib.hid (S4.out.step hR9 hS9)); (obtain ⟨s1, s2, s3, g1, g2, g3, ⟨f0, f1, f2⟩, ⟨v0, v1, v2⟩, r3, S3⟩ := S9.out.three ⟨rfl, rfl, rfl⟩ (.int .i64 k.1) (.int .i64 k.2.1) (.int .i64 k.2.2)); (have S3 := Lib.hid S3); (obtain ⟨t0, t1, t2⟩ := three_ r3); (dsimp only [Tr.kidV]); clear r3 hR9 hS9))
          rw [Fin.out, Hsv.out]
          refine bodyPost_ret (v := .tuple #[Tr.kidV k, .int .i64 c9]) ?_ rfl ⟨X9, S3.out.rep, S3.out.stp, Her.out, k, rfl⟩
          simp [results, Try.results86]
          go_simp
          simp [Tr.kidV]
        · have Hsv := Lib.hid hsv
          clear hsv
          go_wp2_with (first
            | (go_at_call 22; refine (may_any HNd.out.now true ⟨fun _ => Hok.out, fun _ => rfl⟩).mono ?_; rintro e w4 ⟨rfl, hb4⟩; (have S4 := Lib.hid (HS.out.below hb4)); (obtain ⟨z0, z1, z2, z3, z4⟩ := five S4.out.blk); (have N4 := HNd.out.below hb4); (have HSv := D.save S4.out.rep N4 Hok.out); rw [Hsv.out] at HSv; dsimp only at HSv; clear N4 hb4; skip)
            | ((with_reducible refine HSv.mono ?_); rintro e w9 ⟨X9, hR9, hS9, k, c9, rfl, rfl, rfl⟩; (have S9 := Lib.hid (S4.out.step hR9 hS9)); (obtain ⟨s1, s2, s3, g1, g2, g3, ⟨f0, f1, f2⟩, ⟨v0, v1, v2⟩, r3, S3⟩ := S9.out.three ⟨rfl, rfl, rfl⟩ (.int .i64 k.1) (.int .i64 k.2.1) (.int .i64 k.2.2)); (have S3 := Lib.hid S3); (obtain ⟨t0, t1, t2⟩ := three_ r3); (dsimp only [Tr.kidV]); clear r3 hR9 hS9))
          rw [Fin.out, Hsv.out]
          refine bodyPost_ret (v := .tuple #[Tr.kidV k, .int .i64 0]) ?_ rfl ⟨X9, S3.out.rep, S3.out.stp, rfl⟩
          simp [results, Try.results86]
          go_simp
          simp [Tr.kidV]
      · have Hok := Lib.hid hok
        have Fin := Lib.hid (HF.out.trans (saveN_no D hok))
        clear hok HF
        go_wp2_with (go_at_call 22; refine (may_any HNd.out.now false ⟨fun h => (by cases h), fun h => absurd h Hok.out⟩).mono ?_; rintro e w4 ⟨rfl, hb4⟩; (have S4 := Lib.hid (HS.out.below hb4)); (obtain ⟨s1, s2, s3, g1, g2, g3, ⟨f0, f1, f2⟩, ⟨v0, v1, v2⟩, r3, S3⟩ := S4.out.three ⟨rfl, rfl, rfl⟩ (.int .i64 0) (.int .i64 0) (.int .i64 0)); (have S3 := Lib.hid S3); (obtain ⟨t0, t1, t2⟩ := three_ r3); clear r3 hb4)
        rw [Fin.out]
        refine bodyPost_ret (v := .tuple #[Tr.kidV (0, 0, 0), .int .i64 4]) ?_ rfl ⟨_, S3.out.rep, S3.out.stp, (by decide), (0, 0, 0), rfl⟩
        simp [results, Try.results86]
        go_simp
        simp [Tr.kidV]
theorem sv_err {h : Nat} {st s2 : σ} {l : List (Tr.Pt (h + 1))} {er : Int} (hk : Tr.saveKids (Tr.save D.S h) l st = (s2, .error er)) : Tr.save D.S (h + 1) st l = (s2, .error er) := by
  unfold Tr.save; rw [hk]
theorem sv_ok {h : Nat} {st s2 : σ} {l : List (Tr.Pt (h + 1))} {ks : List Nd.T3} (hk : Tr.saveKids (Tr.save D.S h) l st = (s2, .ok ks)) : Tr.save D.S (h + 1) st l = Tr.saveN D.S s2 (Tr.innerN l ks) := by
  conv => lhs; unfold Tr.save
  rw [hk]
set_option maxRecDepth 8000 in
set_option maxHeartbeats 16000000 in
theorem save_succ (h : Nat) (hh1 : h ≤ 1000000) (IH : SvC D h) : SvC D (h + 1) := by
  intro w X st l A c hr hl hw hwt
  obtain ⟨i1, hi1, hz1, hs1, hb1'⟩ := nint_parts
  obtain ⟨i2, hi2, hz2, hs2, hb2'⟩ := nkid_parts
  obtain ⟨d0, hd0, hd1⟩ := part_row
  have hlen := hw.len
  obtain ⟨n, hn⟩ : ∃ n, l.length = n := ⟨_, rfl⟩
  have few : n ≤ 1000000 := by omega
  obtain ⟨cs0, hU⟩ := hl.uni
  rw [hn] at hU
  have HU := Lib.hid hU
  have HI : Hid (SvC D h) := Lib.hid (p := SvC D h) @IH
  obtain ⟨RR, hRR⟩ : ∃ R, Tr.save D.S (h + 1) st l = R := ⟨_, rfl⟩
  have HRe := Lib.hid (show ∀ s2 er, Tr.saveKids (Tr.save D.S h) l st = (s2, .error er) → RR = (s2, .error er) from fun s2 er hk => hRR ▸ sv_err D hk)
  have HRo := Lib.hid (show ∀ s2 ks, Tr.saveKids (Tr.save D.S h) l st = (s2, .ok ks) → RR = Tr.saveN D.S s2 (Tr.innerN l ks) from fun s2 ks hk => hRR ▸ sv_ok D hk)
  rw [hn, hRR]
  have Hn := Lib.hid hn
  have Hw := Lib.hid (show ∀ m, Tr.frs m ∈ l → Tr.Wfs m ∧ Tr.wts m ≤ 1000000 from fun m hm => by
    refine ⟨(hw _ hm).1, ?_⟩
    have mem_le : ∀ {l : List (Tr.Pt (h + 1))} {q : Tr.Pt (h + 1)}, q ∈ l → Tr.wt (h + 1) q ≤ Tr.wts l := fun {l q} hq => by
      induction l with
      | nil => cases hq
      | cons x l ih =>
        rw [Tr.wts_cons]
        rcases List.mem_cons.1 hq with rfl | hq
        · omega
        · have := ih hq; omega
    have := mem_le hm
    rw [Tr.wt_frs] at this
    omega)
  obtain ⟨z, hz⟩ : ∃ z : Int, z = ((h + 1 : Nat) : Int) := ⟨_, rfl⟩
  have zz : ((z : Int) == 0) = false := by rw [beq_eq_false_iff_ne]; omega
  have Zs := Lib.hid (show z - 1 = (h : Int) ∧ wrap64 (z - 1) = (h : Int) from ⟨by omega, by simp only [wrap64]; omega⟩)
  have Hz := Lib.hid hz
  have Hr := Lib.hid hr
  obtain ⟨rb, hrb⟩ : ∃ r, w.heap.size = r := ⟨_, rfl⟩
  obtain ⟨xb, hxb⟩ : ∃ r, rb + 1 = r := ⟨_, rfl⟩
  have Hrb := Lib.hid hrb
  have Hxb := Lib.hid hxb
  rw [← hz]
  clear hl hw hwt hlen hRR hn hr hU IH hz
  have HLd := D.hS
  have HEd := D.eS
  unfold StoI.val
  go_enter Try.func86, Try.ntmps86
  go_wp2_with fail
  obtain ⟨W, hW⟩ : ∃ W, (w.alloc (.cells #[.int .i64 0, .int .i64 0, .int .i64 0] 58)).alloc (.cells #[.int .i64 z, .slice none 0 0, .slice none 0 0, .slice none 0 0, .slice none 0 0] 35) = W := ⟨_, rfl⟩
  rw [hW]
  have H0 := Lib.hid (sv_start D Hr.out Hrb.out Hxb.out hW)
  clear hW
  go_loopw [17] (fun v17 wr => ∃ (i : Nat) (done : List Nd.T3) (u1 u4 : Value) (Xr : Nat → Prop) (sr : σ), v17 = .int .i64 (i : Int) ∧ i ≤ n ∧ done.length = i ∧ Tr.saveKids (Tr.save D.S h) l st = Tr.skCat done (Tr.saveKids (Tr.save D.S h) (l.drop i) sr) ∧ SvW D w X sr wr Xr xb z ((l.take i).map (Tr.keyP (h + 1))) [] [] done u1 (.slice none 0 0) (.slice none 0 0) u4 (fun g t C => g = rb ∧ t = 58 ∧ C = #[.int .i64 0, .int .i64 0, .int .i64 0])) (fun v17 _ => n - (intOf v17).toNat)
  case atStart => exact ⟨0, [], _, _, X, st, rfl, Nat.zero_le _, rfl, (Tr.skCat_nil _).symm, H0.out⟩
  case round =>
    obtain ⟨i, done, u1, u4, Xr, sr, rfl, hi, hl4, heq, hS⟩ := hrel
    clear H0 hrb hxb
    have hl1 : ((l.take i).map (Tr.keyP (h + 1))).length = i := by rw [List.length_map, List.length_take, Hn.out, Nat.min_eq_left hi]
    have HS := Lib.hid hS
    by_cases hik : i < n
    · have y0 : decide ((i : Int) < (n : Int)) = true := by rw [decide_eq_true_eq]; omega
      have y0' : decide (i < n) = true := by rw [decide_eq_true_eq]; exact hik
      have y1 : (i : Int) < (n : Int) := by omega
      have MB := Lib.hid (show i + 1 ≤ maxLen ∧ (i + 1) * 8 ≤ 140737488355328 ∧ (i + 1) * 24 ≤ 140737488355328 from ⟨by unfold maxLen; omega, by omega, by omega⟩)
      have Wi : wrap64 ((i : Int) + 1) = (i : Int) + 1 := by simp only [wrap64]; omega
      obtain ⟨A1, c1, rfl⟩ := own_slice (hl1 ▸ hS.o1)
      obtain ⟨A4, c4, rfl⟩ := own_slice (hl4 ▸ hS.o4)
      obtain ⟨p, x, hp, hx⟩ := get_of_len (HU.out.now.2.1.trans rfl) (i := i) (by rw [Hn.out]; exact hik)
      have FP := Lib.hid (show Fast X w fun u => PR u (h + 1) p x from fun u k => (HU.out u k).2.2 i p x hp hx)
      obtain ⟨lb, lo', rfl, hlb, rg⟩ := (HU.out wr hS.stp.chg).1.sl.range hx
      have Nx := Lib.hid (show (l.take (i + 1)).map (Tr.keyP (h + 1)) = (l.take i).map (Tr.keyP (h + 1)) ++ [Tr.keyP (h + 1) p] by rw [List.take_add_one, hp, List.map_append]; rfl)
      have Dr := Lib.hid (drop_next hp)
      have Hmem := Lib.hid (show p ∈ l from List.mem_of_getElem? hp)
      have Hik := Lib.hid hik
      have Heq := Lib.hid heq
      obtain ⟨xq, hxq⟩ : ∃ x, wr.heap.size = x := ⟨_, rfl⟩
      have Hxq := Lib.hid hxq
      clear hp hx hlb hS hi hik heq
      cases p with
      | inl b =>
        obtain rfl : x = ⟨b.f, Tr.z, b, false, none, 0, 0⟩ := FP.out.now
        dsimp only [pc1, pcs, Tr.z, Tr.bz] at rg
        go_upto_region 5 with ((with_reducible show wpList _ _ _ (⟨some 20, Op.load 160 _, _, _, _, _⟩ :: _) _ _); refine wpList_load_mid rfl 160 _ rfl lb (lo' + i * 14) rfl [.int .i64 b.f, .int .i64 0, .int .i64 0, .int .i64 0, .int .i64 0, .int .i64 0, .int .i64 b.k.1, .int .i64 b.k.2.1, .int .i64 b.k.2.2, .int .i64 b.h, .int .i64 b.f, .int .i64 b.t, .bool false, .slice none 0 0] d0 rg hd0 hd1 part_size ?_)
        obtain ⟨W1, hW1⟩ : ∃ W, wr.alloc (.cells #[.int .i64 b.f, .int .i64 0, .int .i64 0, .int .i64 0, .int .i64 0, .int .i64 0, .int .i64 b.k.1, .int .i64 b.k.2.1, .int .i64 b.k.2.2, .int .i64 b.h, .int .i64 b.f, .int .i64 b.t, .bool false, .slice none 0 0] 160) = W := ⟨_, rfl⟩
        rw [hW1]
        have S1 := Lib.hid (show SvW D w X sr W1 Xr xb z ((l.take i).map (Tr.keyP (h + 1))) [] [] done (.slice A1 i c1) (.slice none 0 0) (.slice none 0 0) (.slice A4 i c4) (fun g t C => (fun g t C => g = rb ∧ t = 58 ∧ C = #[.int .i64 0, .int .i64 0, .int .i64 0]) g t C ∨ (g = xq ∧ t = 160 ∧ C = #[.int .i64 b.f, .int .i64 0, .int .i64 0, .int .i64 0, .int .i64 0, .int .i64 0, .int .i64 b.k.1, .int .i64 b.k.2.1, .int .i64 b.k.2.2, .int .i64 b.h, .int .i64 b.f, .int .i64 b.t, .bool false, .slice none 0 0])) from by
          have := HS.out.more 160 #[.int .i64 b.f, .int .i64 0, .int .i64 0, .int .i64 0, .int .i64 0, .int .i64 0, .int .i64 b.k.1, .int .i64 b.k.2.1, .int .i64 b.k.2.2, .int .i64 b.h, .int .i64 b.f, .int .i64 b.t, .bool false, .slice none 0 0]
          rw [hW1, Hxq.out] at this
          exact this)
        obtain ⟨-, v1, -, -, -⟩ := five S1.out.blk
        have q0 := (S1.out.kp xq 160 #[.int .i64 b.f, .int .i64 0, .int .i64 0, .int .i64 0, .int .i64 0, .int .i64 0, .int .i64 b.k.1, .int .i64 b.k.2.1, .int .i64 b.k.2.2, .int .i64 b.h, .int .i64 b.f, .int .i64 b.t, .bool false, .slice none 0 0] (.inr ⟨rfl, rfl, rfl⟩)).1.cell 0
        clear hW1 hxq
        go_upto_region 10 with (at_builtin; refine wpList_append_sls (base := w.heap.size) _ rfl (.tmp 22) (.tmp 25) _ rfl Try.underlying22 hi1 hz1 hs1 hb1' rfl (by decide) rfl (hl1 ▸ (S1.out.below (below_alloc1 _ _)).o1) (m := 1) (news := [.int .i64 b.f]) rfl rfl (by simp) (Nat.le_refl _) sl_1 (by simp [Value.oneCell']) MB.out.1 MB.out.2.1 (S1.out.below (below_alloc1 _ _)).size ?_; intro v7 w7 h1 h2 h3; (obtain ⟨A7, c7, rfl⟩ := own_slice h1); (obtain ⟨fz1, cz1, S2⟩ := S1.out.put1 b.f hl1 (below_alloc1 _ _) h1 h2 h3); (obtain ⟨W2, hW2⟩ : ∃ W, w7.setCell ⟨xb, 1, none⟩ (.slice A7 (i + 1) c7) = W := ⟨_, rfl⟩); rw [hW2] at S2; (have S2 := Lib.hid S2); (obtain ⟨kb, hkb⟩ : ∃ k, W2.heap.size = k := ⟨_, rfl⟩); (have Hkb := Lib.hid hkb); (have p6 := (S2.out.kp xq 160 #[.int .i64 b.f, .int .i64 0, .int .i64 0, .int .i64 0, .int .i64 0, .int .i64 0, .int .i64 b.k.1, .int .i64 b.k.2.1, .int .i64 b.k.2.2, .int .i64 b.h, .int .i64 b.f, .int .i64 b.t, .bool false, .slice none 0 0] (.inr ⟨rfl, rfl, rfl⟩)).1.cell 6); (have p7 := (S2.out.kp xq 160 #[.int .i64 b.f, .int .i64 0, .int .i64 0, .int .i64 0, .int .i64 0, .int .i64 0, .int .i64 b.k.1, .int .i64 b.k.2.1, .int .i64 b.k.2.2, .int .i64 b.h, .int .i64 b.f, .int .i64 b.t, .bool false, .slice none 0 0] (.inr ⟨rfl, rfl, rfl⟩)).1.cell 7); (have p8 := (S2.out.kp xq 160 #[.int .i64 b.f, .int .i64 0, .int .i64 0, .int .i64 0, .int .i64 0, .int .i64 0, .int .i64 b.k.1, .int .i64 b.k.2.1, .int .i64 b.k.2.2, .int .i64 b.h, .int .i64 b.f, .int .i64 b.t, .bool false, .slice none 0 0] (.inr ⟨rfl, rfl, rfl⟩)).1.cell 8); clear h1 h2 h3)
        obtain ⟨W3, hW3⟩ : ∃ W, W2.alloc (.cells #[.int .i64 b.k.1, .int .i64 b.k.2.1, .int .i64 b.k.2.2] 58) = W := ⟨_, rfl⟩
        rw [hW3]
        have S3 := Lib.hid (show SvW D w X sr W3 Xr xb z ((l.take i).map (Tr.keyP (h + 1)) ++ [b.f]) [] [] done (.slice A7 (i + 1) c7) (.slice none 0 0) (.slice none 0 0) (.slice A4 i c4) (fun g t C => ((fun g t C => g = rb ∧ t = 58 ∧ C = #[.int .i64 0, .int .i64 0, .int .i64 0]) g t C ∨ (g = xq ∧ t = 160 ∧ C = #[.int .i64 b.f, .int .i64 0, .int .i64 0, .int .i64 0, .int .i64 0, .int .i64 0, .int .i64 b.k.1, .int .i64 b.k.2.1, .int .i64 b.k.2.2, .int .i64 b.h, .int .i64 b.f, .int .i64 b.t, .bool false, .slice none 0 0])) ∨ (g = kb ∧ t = 58 ∧ C = #[.int .i64 b.k.1, .int .i64 b.k.2.1, .int .i64 b.k.2.2])) from by
          have := S2.out.more 58 #[.int .i64 b.k.1, .int .i64 b.k.2.1, .int .i64 b.k.2.2]
          rw [hW3, Hkb.out] at this
          exact this)
        have q12 := (S3.out.kp xq 160 #[.int .i64 b.f, .int .i64 0, .int .i64 0, .int .i64 0, .int .i64 0, .int .i64 0, .int .i64 b.k.1, .int .i64 b.k.2.1, .int .i64 b.k.2.2, .int .i64 b.h, .int .i64 b.f, .int .i64 b.t, .bool false, .slice none 0 0] (.inl (.inr ⟨rfl, rfl, rfl⟩))).1.cell 12
        have q13 := (S3.out.kp xq 160 #[.int .i64 b.f, .int .i64 0, .int .i64 0, .int .i64 0, .int .i64 0, .int .i64 0, .int .i64 b.k.1, .int .i64 b.k.2.1, .int .i64 b.k.2.2, .int .i64 b.h, .int .i64 b.f, .int .i64 b.t, .bool false, .slice none 0 0] (.inl (.inr ⟨rfl, rfl, rfl⟩))).1.cell 13
        have Hne := Lib.hid (show rb ≠ kb from fun e => by
          have := (S2.out.kp rb 58 #[.int .i64 0, .int .i64 0, .int .i64 0] (.inl ⟨rfl, rfl, rfl⟩)).1.lt
          rw [Hkb.out, e] at this
          exact Nat.lt_irrefl _ this)
        clear hW3 hkb hW2 p6 p7 p8 q0 v1
        obtain ⟨-, -, -, -, v4⟩ := five S3.out.blk
        obtain ⟨m0, m1, m2⟩ := three_ (S3.out.kp kb 58 #[.int .i64 b.k.1, .int .i64 b.k.2.1, .int .i64 b.k.2.2] (.inr ⟨rfl, rfl, rfl⟩)).1
        go_wp2_with (at_builtin; refine wpList_append_sls (base := w.heap.size) _ rfl (.tmp 65) (.tmp 67) _ rfl Try.underlying33 hi2 hz2 hs2 hb2' rfl (by decide) rfl (hl4 ▸ (S3.out.below (below_alloc1 _ _)).o4) (m := 1) (news := [.int .i64 b.k.1, .int .i64 b.k.2.1, .int .i64 b.k.2.2]) rfl rfl (by simp) (Nat.le_refl _) sl_3 (by simp [Value.oneCell']) MB.out.1 MB.out.2.2 (S3.out.below (below_alloc1 _ _)).size ?_; intro v9 w9 h1 h2 h3; (obtain ⟨A9, c9, rfl⟩ := own_slice h1); (obtain ⟨fz3, cz3, S7⟩ := S3.out.put4 b.k hl4 (below_alloc1 _ _) h1 h2 h3); (obtain ⟨W7, hW7⟩ : ∃ W, w9.setCell ⟨xb, 4, none⟩ (.slice A9 (i + 1) c9) = W := ⟨_, rfl⟩); rw [hW7] at S7; (have S7 := Lib.hid S7); clear h1 h2 h3)
        go_roundw
        case rel => exact ⟨i + 1, done ++ [b.k], _, _, Xr, sr, by go_num, Hik.out, by rw [List.length_append, hl4]; rfl, by rw [Heq.out, Dr.out]; exact Tr.skCat_old, by
          rw [Nx.out]
          exact S7.out.less fun g t C hK => .inl (.inl hK)⟩
        case measure => exact meas_up Hik.out
      | inr m =>
        obtain ⟨K, hK⟩ : ∃ K, K = Tr.keyP (h + 1) (Tr.frs m) := ⟨_, rfl⟩
        obtain ⟨xA, hxA⟩ : ∃ A, x.A = A := ⟨_, rfl⟩
        obtain ⟨xc, hxc⟩ : ∃ A, x.c = A := ⟨_, rfl⟩
        obtain ⟨mn, hmn⟩ : ∃ q, m.length = q := ⟨_, rfl⟩
        have ex := FP.out.now.list.1
        rw [hxA, hxc, ← hK, hmn] at ex
        have PM := Lib.hid (show Fast X w fun u => PL u h m xA xc from fun u k => by have := (FP.out u k).list.2; rwa [hxA, hxc] at this)
        have HK := Lib.hid hK
        have Hmn := Lib.hid hmn
        obtain ⟨hw1, hw2⟩ := Hw.out m Hmem.out
        have Hw1 := Lib.hid hw1
        have Hw2 := Lib.hid hw2
        clear FP hxA hxc hK hmn hw1 hw2
        subst ex
        dsimp only [pc1, pcs, Tr.z, Tr.bz] at rg
        rcases hsv : Tr.save D.S h sr m with ⟨s5, er5 | k5⟩
        · go_upto_region 5 with ((with_reducible show wpList _ _ _ (⟨some 20, Op.load 160 _, _, _, _, _⟩ :: _) _ _); refine wpList_load_mid rfl 160 _ rfl lb (lo' + i * 14) rfl [.int .i64 K, .int .i64 0, .int .i64 0, .int .i64 0, .int .i64 0, .int .i64 0, .int .i64 0, .int .i64 0, .int .i64 0, .int .i64 0, .int .i64 0, .int .i64 0, .bool true, .slice xA mn xc] d0 rg hd0 hd1 part_size ?_)
          obtain ⟨W1, hW1⟩ : ∃ W, wr.alloc (.cells #[.int .i64 K, .int .i64 0, .int .i64 0, .int .i64 0, .int .i64 0, .int .i64 0, .int .i64 0, .int .i64 0, .int .i64 0, .int .i64 0, .int .i64 0, .int .i64 0, .bool true, .slice xA mn xc] 160) = W := ⟨_, rfl⟩
          rw [hW1]
          have S1 := Lib.hid (show SvW D w X sr W1 Xr xb z ((l.take i).map (Tr.keyP (h + 1))) [] [] done (.slice A1 i c1) (.slice none 0 0) (.slice none 0 0) (.slice A4 i c4) (fun g t C => (fun g t C => g = rb ∧ t = 58 ∧ C = #[.int .i64 0, .int .i64 0, .int .i64 0]) g t C ∨ (g = xq ∧ t = 160 ∧ C = #[.int .i64 K, .int .i64 0, .int .i64 0, .int .i64 0, .int .i64 0, .int .i64 0, .int .i64 0, .int .i64 0, .int .i64 0, .int .i64 0, .int .i64 0, .int .i64 0, .bool true, .slice xA mn xc])) from by
            have := HS.out.more 160 #[.int .i64 K, .int .i64 0, .int .i64 0, .int .i64 0, .int .i64 0, .int .i64 0, .int .i64 0, .int .i64 0, .int .i64 0, .int .i64 0, .int .i64 0, .int .i64 0, .bool true, .slice xA mn xc]
            rw [hW1, Hxq.out] at this
            exact this)
          obtain ⟨-, v1, -, -, -⟩ := five S1.out.blk
          have q0 := (S1.out.kp xq 160 #[.int .i64 K, .int .i64 0, .int .i64 0, .int .i64 0, .int .i64 0, .int .i64 0, .int .i64 0, .int .i64 0, .int .i64 0, .int .i64 0, .int .i64 0, .int .i64 0, .bool true, .slice xA mn xc] (.inr ⟨rfl, rfl, rfl⟩)).1.cell 0
          clear hW1 hxq
          go_upto_region 10 with (at_builtin; refine wpList_append_sls (base := w.heap.size) _ rfl (.tmp 22) (.tmp 25) _ rfl Try.underlying22 hi1 hz1 hs1 hb1' rfl (by decide) rfl (hl1 ▸ (S1.out.below (below_alloc1 _ _)).o1) (m := 1) (news := [.int .i64 K]) rfl rfl (by simp) (Nat.le_refl _) sl_1 (by simp [Value.oneCell']) MB.out.1 MB.out.2.1 (S1.out.below (below_alloc1 _ _)).size ?_; intro v7 w7 h1 h2 h3; (obtain ⟨A7, c7, rfl⟩ := own_slice h1); (obtain ⟨fz1, cz1, S2⟩ := S1.out.put1 K hl1 (below_alloc1 _ _) h1 h2 h3); (obtain ⟨W2, hW2⟩ : ∃ W, w7.setCell ⟨xb, 1, none⟩ (.slice A7 (i + 1) c7) = W := ⟨_, rfl⟩); rw [hW2] at S2; (have S2 := Lib.hid S2); (obtain ⟨kb, hkb⟩ : ∃ k, W2.heap.size = k := ⟨_, rfl⟩); (have Hkb := Lib.hid hkb); (have p6 := (S2.out.kp xq 160 #[.int .i64 K, .int .i64 0, .int .i64 0, .int .i64 0, .int .i64 0, .int .i64 0, .int .i64 0, .int .i64 0, .int .i64 0, .int .i64 0, .int .i64 0, .int .i64 0, .bool true, .slice xA mn xc] (.inr ⟨rfl, rfl, rfl⟩)).1.cell 6); (have p7 := (S2.out.kp xq 160 #[.int .i64 K, .int .i64 0, .int .i64 0, .int .i64 0, .int .i64 0, .int .i64 0, .int .i64 0, .int .i64 0, .int .i64 0, .int .i64 0, .int .i64 0, .int .i64 0, .bool true, .slice xA mn xc] (.inr ⟨rfl, rfl, rfl⟩)).1.cell 7); (have p8 := (S2.out.kp xq 160 #[.int .i64 K, .int .i64 0, .int .i64 0, .int .i64 0, .int .i64 0, .int .i64 0, .int .i64 0, .int .i64 0, .int .i64 0, .int .i64 0, .int .i64 0, .int .i64 0, .bool true, .slice xA mn xc] (.inr ⟨rfl, rfl, rfl⟩)).1.cell 8); clear h1 h2 h3)
          obtain ⟨W3, hW3⟩ : ∃ W, W2.alloc (.cells #[.int .i64 0, .int .i64 0, .int .i64 0] 58) = W := ⟨_, rfl⟩
          rw [hW3]
          have S3 := Lib.hid (show SvW D w X sr W3 Xr xb z ((l.take i).map (Tr.keyP (h + 1)) ++ [K]) [] [] done (.slice A7 (i + 1) c7) (.slice none 0 0) (.slice none 0 0) (.slice A4 i c4) (fun g t C => ((fun g t C => g = rb ∧ t = 58 ∧ C = #[.int .i64 0, .int .i64 0, .int .i64 0]) g t C ∨ (g = xq ∧ t = 160 ∧ C = #[.int .i64 K, .int .i64 0, .int .i64 0, .int .i64 0, .int .i64 0, .int .i64 0, .int .i64 0, .int .i64 0, .int .i64 0, .int .i64 0, .int .i64 0, .int .i64 0, .bool true, .slice xA mn xc])) ∨ (g = kb ∧ t = 58 ∧ C = #[.int .i64 0, .int .i64 0, .int .i64 0])) from by
            have := S2.out.more 58 #[.int .i64 0, .int .i64 0, .int .i64 0]
            rw [hW3, Hkb.out] at this
            exact this)
          have q12 := (S3.out.kp xq 160 #[.int .i64 K, .int .i64 0, .int .i64 0, .int .i64 0, .int .i64 0, .int .i64 0, .int .i64 0, .int .i64 0, .int .i64 0, .int .i64 0, .int .i64 0, .int .i64 0, .bool true, .slice xA mn xc] (.inl (.inr ⟨rfl, rfl, rfl⟩))).1.cell 12
          have q13 := (S3.out.kp xq 160 #[.int .i64 K, .int .i64 0, .int .i64 0, .int .i64 0, .int .i64 0, .int .i64 0, .int .i64 0, .int .i64 0, .int .i64 0, .int .i64 0, .int .i64 0, .int .i64 0, .bool true, .slice xA mn xc] (.inl (.inr ⟨rfl, rfl, rfl⟩))).1.cell 13
          have Hne := Lib.hid (show rb ≠ kb from fun e => by
            have := (S2.out.kp rb 58 #[.int .i64 0, .int .i64 0, .int .i64 0] (.inl ⟨rfl, rfl, rfl⟩)).1.lt
            rw [Hkb.out, e] at this
            exact Nat.lt_irrefl _ this)
          clear hW3 hkb hW2 p6 p7 p8 q0 v1
          have zs := Zs.out.1
          have zs' := Zs.out.2
          have HIH0 := HI.out (w := W3) (X := Xr) (st := sr) (l := m) (A := xA) (c := xc) S3.out.rep (Fast.step PM.out S3.out.stp) Hw1.out Hw2.out
          rw [Hmn.out, hsv] at HIH0
          unfold SvR StoI.val at HIH0
          dsimp only at HIH0
          have HIH := Lib.hid HIH0
          have Hsv := Lib.hid hsv
          clear HIH0 hsv
          have FE := Lib.hid (HRe.out s5 er5 (Heq.out.trans (by rw [Dr.out]; exact Tr.skCat_err Hsv.out)))
          go_wp2_with (go_at_call 86; (with_reducible refine HIH.out.mono ?_); rintro e w5 ⟨X5, hR5, hS5, hne, k, rfl⟩; (have S5 := Lib.hid (S3.out.step hR5 hS5)); (obtain ⟨s1, s2, s3, g1, g2, g3, ⟨f0, f1, f2⟩, ⟨t0, t1, t2⟩, r3, S6⟩ := S5.out.three (.inr ⟨rfl, rfl, rfl⟩) (.int .i64 k.1) (.int .i64 k.2.1) (.int .i64 k.2.2)); (have S6 := Lib.hid S6); (obtain ⟨j1, j2, j3, b1, b2, b3, ⟨a0, a1, a2⟩, ⟨o0, o1, o2⟩, r8, S8⟩ := S6.out.three (.inl ⟨.inl (.inl ⟨rfl, rfl, rfl⟩), Hne.out⟩) (.int .i64 0) (.int .i64 0) (.int .i64 0)); (have S8 := Lib.hid S8); (obtain ⟨x0, x1, x2⟩ := three_ r8); (dsimp only [Tr.kidV]); (have Her := Lib.hid hne); (have zE : ((er5 : Int) != 0) = true := by simpa using hne); clear r3 r8 hne hR5 hS5)
          rw [FE.out]
          refine bodyPost_ret (v := .tuple #[Tr.kidV (0, 0, 0), .int .i64 er5]) ?_ rfl ⟨X5, S8.out.rep, S8.out.stp, Her.out, (0, 0, 0), rfl⟩
          simp [results, Try.results86]
          go_simp
          simp [Tr.kidV]
        · go_upto_region 5 with ((with_reducible show wpList _ _ _ (⟨some 20, Op.load 160 _, _, _, _, _⟩ :: _) _ _); refine wpList_load_mid rfl 160 _ rfl lb (lo' + i * 14) rfl [.int .i64 K, .int .i64 0, .int .i64 0, .int .i64 0, .int .i64 0, .int .i64 0, .int .i64 0, .int .i64 0, .int .i64 0, .int .i64 0, .int .i64 0, .int .i64 0, .bool true, .slice xA mn xc] d0 rg hd0 hd1 part_size ?_)
          obtain ⟨W1, hW1⟩ : ∃ W, wr.alloc (.cells #[.int .i64 K, .int .i64 0, .int .i64 0, .int .i64 0, .int .i64 0, .int .i64 0, .int .i64 0, .int .i64 0, .int .i64 0, .int .i64 0, .int .i64 0, .int .i64 0, .bool true, .slice xA mn xc] 160) = W := ⟨_, rfl⟩
          rw [hW1]
          have S1 := Lib.hid (show SvW D w X sr W1 Xr xb z ((l.take i).map (Tr.keyP (h + 1))) [] [] done (.slice A1 i c1) (.slice none 0 0) (.slice none 0 0) (.slice A4 i c4) (fun g t C => (fun g t C => g = rb ∧ t = 58 ∧ C = #[.int .i64 0, .int .i64 0, .int .i64 0]) g t C ∨ (g = xq ∧ t = 160 ∧ C = #[.int .i64 K, .int .i64 0, .int .i64 0, .int .i64 0, .int .i64 0, .int .i64 0, .int .i64 0, .int .i64 0, .int .i64 0, .int .i64 0, .int .i64 0, .int .i64 0, .bool true, .slice xA mn xc])) from by
            have := HS.out.more 160 #[.int .i64 K, .int .i64 0, .int .i64 0, .int .i64 0, .int .i64 0, .int .i64 0, .int .i64 0, .int .i64 0, .int .i64 0, .int .i64 0, .int .i64 0, .int .i64 0, .bool true, .slice xA mn xc]
            rw [hW1, Hxq.out] at this
            exact this)
          obtain ⟨-, v1, -, -, -⟩ := five S1.out.blk
          have q0 := (S1.out.kp xq 160 #[.int .i64 K, .int .i64 0, .int .i64 0, .int .i64 0, .int .i64 0, .int .i64 0, .int .i64 0, .int .i64 0, .int .i64 0, .int .i64 0, .int .i64 0, .int .i64 0, .bool true, .slice xA mn xc] (.inr ⟨rfl, rfl, rfl⟩)).1.cell 0
          clear hW1 hxq
          go_upto_region 10 with (at_builtin; refine wpList_append_sls (base := w.heap.size) _ rfl (.tmp 22) (.tmp 25) _ rfl Try.underlying22 hi1 hz1 hs1 hb1' rfl (by decide) rfl (hl1 ▸ (S1.out.below (below_alloc1 _ _)).o1) (m := 1) (news := [.int .i64 K]) rfl rfl (by simp) (Nat.le_refl _) sl_1 (by simp [Value.oneCell']) MB.out.1 MB.out.2.1 (S1.out.below (below_alloc1 _ _)).size ?_; intro v7 w7 h1 h2 h3; (obtain ⟨A7, c7, rfl⟩ := own_slice h1); (obtain ⟨fz1, cz1, S2⟩ := S1.out.put1 K hl1 (below_alloc1 _ _) h1 h2 h3); (obtain ⟨W2, hW2⟩ : ∃ W, w7.setCell ⟨xb, 1, none⟩ (.slice A7 (i + 1) c7) = W := ⟨_, rfl⟩); rw [hW2] at S2; (have S2 := Lib.hid S2); (obtain ⟨kb, hkb⟩ : ∃ k, W2.heap.size = k := ⟨_, rfl⟩); (have Hkb := Lib.hid hkb); (have p6 := (S2.out.kp xq 160 #[.int .i64 K, .int .i64 0, .int .i64 0, .int .i64 0, .int .i64 0, .int .i64 0, .int .i64 0, .int .i64 0, .int .i64 0, .int .i64 0, .int .i64 0, .int .i64 0, .bool true, .slice xA mn xc] (.inr ⟨rfl, rfl, rfl⟩)).1.cell 6); (have p7 := (S2.out.kp xq 160 #[.int .i64 K, .int .i64 0, .int .i64 0, .int .i64 0, .int .i64 0, .int .i64 0, .int .i64 0, .int .i64 0, .int .i64 0, .int .i64 0, .int .i64 0, .int .i64 0, .bool true, .slice xA mn xc] (.inr ⟨rfl, rfl, rfl⟩)).1.cell 7); (have p8 := (S2.out.kp xq 160 #[.int .i64 K, .int .i64 0, .int .i64 0, .int .i64 0, .int .i64 0, .int .i64 0, .int .i64 0, .int .i64 0, .int .i64 0, .int .i64 0, .int .i64 0, .int .i64 0, .bool true, .slice xA mn xc] (.inr ⟨rfl, rfl, rfl⟩)).1.cell 8); clear h1 h2 h3)
          obtain ⟨W3, hW3⟩ : ∃ W, W2.alloc (.cells #[.int .i64 0, .int .i64 0, .int .i64 0] 58) = W := ⟨_, rfl⟩
          rw [hW3]
          have S3 := Lib.hid (show SvW D w X sr W3 Xr xb z ((l.take i).map (Tr.keyP (h + 1)) ++ [K]) [] [] done (.slice A7 (i + 1) c7) (.slice none 0 0) (.slice none 0 0) (.slice A4 i c4) (fun g t C => ((fun g t C => g = rb ∧ t = 58 ∧ C = #[.int .i64 0, .int .i64 0, .int .i64 0]) g t C ∨ (g = xq ∧ t = 160 ∧ C = #[.int .i64 K, .int .i64 0, .int .i64 0, .int .i64 0, .int .i64 0, .int .i64 0, .int .i64 0, .int .i64 0, .int .i64 0, .int .i64 0, .int .i64 0, .int .i64 0, .bool true, .slice xA mn xc])) ∨ (g = kb ∧ t = 58 ∧ C = #[.int .i64 0, .int .i64 0, .int .i64 0])) from by
            have := S2.out.more 58 #[.int .i64 0, .int .i64 0, .int .i64 0]
            rw [hW3, Hkb.out] at this
            exact this)
          have q12 := (S3.out.kp xq 160 #[.int .i64 K, .int .i64 0, .int .i64 0, .int .i64 0, .int .i64 0, .int .i64 0, .int .i64 0, .int .i64 0, .int .i64 0, .int .i64 0, .int .i64 0, .int .i64 0, .bool true, .slice xA mn xc] (.inl (.inr ⟨rfl, rfl, rfl⟩))).1.cell 12
          have q13 := (S3.out.kp xq 160 #[.int .i64 K, .int .i64 0, .int .i64 0, .int .i64 0, .int .i64 0, .int .i64 0, .int .i64 0, .int .i64 0, .int .i64 0, .int .i64 0, .int .i64 0, .int .i64 0, .bool true, .slice xA mn xc] (.inl (.inr ⟨rfl, rfl, rfl⟩))).1.cell 13
          have Hne := Lib.hid (show rb ≠ kb from fun e => by
            have := (S2.out.kp rb 58 #[.int .i64 0, .int .i64 0, .int .i64 0] (.inl ⟨rfl, rfl, rfl⟩)).1.lt
            rw [Hkb.out, e] at this
            exact Nat.lt_irrefl _ this)
          clear hW3 hkb hW2 p6 p7 p8 q0 v1
          have zs := Zs.out.1
          have zs' := Zs.out.2
          have HIH0 := HI.out (w := W3) (X := Xr) (st := sr) (l := m) (A := xA) (c := xc) S3.out.rep (Fast.step PM.out S3.out.stp) Hw1.out Hw2.out
          rw [Hmn.out, hsv] at HIH0
          unfold SvR StoI.val at HIH0
          dsimp only at HIH0
          have HIH := Lib.hid HIH0
          have Hsv := Lib.hid hsv
          clear HIH0 hsv
          obtain ⟨-, -, -, -, v4⟩ := five S3.out.blk
          go_wp2_with (first
            | (go_at_call 86; (with_reducible refine HIH.out.mono ?_); rintro e w5 ⟨X5, hR5, hS5, rfl⟩; (have S5 := Lib.hid (S3.out.step hR5 hS5)); (obtain ⟨k, hk⟩ : ∃ k, k = k5 := ⟨_, rfl⟩); (have Hk5 := Lib.hid hk); rw [← hk]; (obtain ⟨s1, s2, s3, g1, g2, g3, ⟨f0, f1, f2⟩, ⟨t0, t1, t2⟩, r3, S6⟩ := S5.out.three (.inr ⟨rfl, rfl, rfl⟩) (.int .i64 k.1) (.int .i64 k.2.1) (.int .i64 k.2.2)); (have S6 := Lib.hid S6); (obtain ⟨m0, m1, m2⟩ := three_ r3); (obtain ⟨-, -, -, -, v6⟩ := five S6.out.blk); (dsimp only [Tr.kidV]); clear r3 hR5 hS5 hk v4)
            | (at_builtin; refine wpList_append_sls (base := w.heap.size) _ rfl (.tmp 65) (.tmp 67) _ rfl Try.underlying33 hi2 hz2 hs2 hb2' rfl (by decide) rfl (hl4 ▸ (S6.out.below (below_alloc1 _ _)).o4) (m := 1) (news := [.int .i64 k.1, .int .i64 k.2.1, .int .i64 k.2.2]) rfl rfl (by simp) (Nat.le_refl _) sl_3 (by simp [Value.oneCell']) MB.out.1 MB.out.2.2 (S6.out.below (below_alloc1 _ _)).size ?_; intro v9 w9 h1 h2 h3; (obtain ⟨A9, c9, rfl⟩ := own_slice h1); (obtain ⟨fz3, cz3, S7⟩ := S6.out.put4 k hl4 (below_alloc1 _ _) h1 h2 h3); (obtain ⟨W7, hW7⟩ : ∃ W, w9.setCell ⟨xb, 4, none⟩ (.slice A9 (i + 1) c9) = W := ⟨_, rfl⟩); rw [hW7] at S7; (have S7 := Lib.hid S7); clear h1 h2 h3))
          go_roundw
          case rel => exact ⟨i + 1, done ++ [k], _, _, X5, s5, by go_num, Hik.out, by rw [List.length_append, hl4]; rfl, by rw [Heq.out, Dr.out, Hk5.out]; exact Tr.skCat_frs Hsv.out, by
            rw [Nx.out, show Tr.keyP (h + 1) (Sum.inr m) = K from HK.out.symm]
            exact S7.out.less fun g t C hK => .inl ⟨.inl (.inl hK), fun e => Hne.out (hK.1.symm.trans e)⟩⟩
          case measure => exact meas_up Hik.out
    · obtain rfl : i = n := by omega
      have y0 : decide ((i : Int) < (i : Int)) = false := by rw [decide_eq_false_iff_not]; omega
      have y0' : decide (i < i) = false := by rw [decide_eq_false_iff_not]; omega
      have hall : l.take i = l := List.take_of_length_le (by rw [Hn.out]; exact Nat.le_refl _)
      have hdr : l.drop i = [] := List.drop_eq_nil_of_le (by rw [Hn.out]; exact Nat.le_refl _)
      rw [hdr, Tr.skCat_end] at heq
      have HF := Lib.hid (HRo.out _ _ heq)
      rw [hall] at HS hl1
      obtain ⟨A1, c1, A2, c2, A3, c3, A4, c4, rfl, -, -, rfl, hnd⟩ := HS.out.ndx hl1 (k2 := 0) rfl (k3 := 0) rfl hl4
      rw [show (⟨z, l.map (Tr.keyP (h + 1)), [], [], done⟩ : Nd.N) = Tr.innerN l done by rw [Hz.out]; rfl] at hnd
      clear hall hl1 hl4 hik hi hS hdr heq
      have HNd := Lib.hid hnd
      clear hnd
      obtain ⟨y0, y1, y2, y3, y4⟩ := five HS.out.blk
      by_cases hok : Nd.Ok (Tr.innerN l done)
      · have Hok := Lib.hid hok
        have Fin := Lib.hid (HF.out.trans (saveN_yes D hok))
        clear hok HF
        rcases hsv : D.S.sv sr (Tr.innerN l done) with ⟨s9, er9 | k9⟩
        · have her := D.errS (st := sr) (n := (Tr.innerN l done)) (e := er9) (by rw [hsv])
          have Her := Lib.hid her
          have Hsv := Lib.hid hsv
          clear hsv her
          go_wp2_with (first
            | (go_at_call 22; refine (may_any HNd.out.now true ⟨fun _ => Hok.out, fun _ => rfl⟩).mono ?_; rintro e w4 ⟨rfl, hb4⟩; (have S4 := Lib.hid (HS.out.below hb4)); (obtain ⟨z0, z1, z2, z3, z4⟩ := five S4.out.blk); (have N4 := HNd.out.below hb4); (have HSv := D.save S4.out.rep N4 Hok.out); rw [Hsv.out] at HSv; dsimp only at HSv; clear N4 hb4; skip)
            | ((with_reducible refine HSv.mono ?_); rintro e w9 ⟨X9, hR9, hS9, k, c9, rfl, rfl⟩; (have S9 := Lib.hid (S4.out.step hR9 hS9)); (obtain ⟨s1, s2, s3, g1, g2, g3, ⟨f0, f1, f2⟩, ⟨v0, v1, v2⟩, r3, S3⟩ := S9.out.three ⟨rfl, rfl, rfl⟩ (.int .i64 k.1) (.int .i64 k.2.1) (.int .i64 k.2.2)); (have S3 := Lib.hid S3); (obtain ⟨t0, t1, t2⟩ := three_ r3); (dsimp only [Tr.kidV]); clear r3 hR9 hS9))
          rw [Fin.out, Hsv.out]
          refine bodyPost_ret (v := .tuple #[Tr.kidV k, .int .i64 c9]) ?_ rfl ⟨X9, S3.out.rep, S3.out.stp, Her.out, k, rfl⟩
          simp [results, Try.results86]
          go_simp
          simp [Tr.kidV]
        · have Hsv := Lib.hid hsv
          clear hsv
          go_wp2_with (first
            | (go_at_call 22; refine (may_any HNd.out.now true ⟨fun _ => Hok.out, fun _ => rfl⟩).mono ?_; rintro e w4 ⟨rfl, hb4⟩; (have S4 := Lib.hid (HS.out.below hb4)); (obtain ⟨z0, z1, z2, z3, z4⟩ := five S4.out.blk); (have N4 := HNd.out.below hb4); (have HSv := D.save S4.out.rep N4 Hok.out); rw [Hsv.out] at HSv; dsimp only at HSv; clear N4 hb4; skip)
            | ((with_reducible refine HSv.mono ?_); rintro e w9 ⟨X9, hR9, hS9, k, c9, rfl, rfl, rfl⟩; (have S9 := Lib.hid (S4.out.step hR9 hS9)); (obtain ⟨s1, s2, s3, g1, g2, g3, ⟨f0, f1, f2⟩, ⟨v0, v1, v2⟩, r3, S3⟩ := S9.out.three ⟨rfl, rfl, rfl⟩ (.int .i64 k.1) (.int .i64 k.2.1) (.int .i64 k.2.2)); (have S3 := Lib.hid S3); (obtain ⟨t0, t1, t2⟩ := three_ r3); (dsimp only [Tr.kidV]); clear r3 hR9 hS9))
          rw [Fin.out, Hsv.out]
          refine bodyPost_ret (v := .tuple #[Tr.kidV k, .int .i64 0]) ?_ rfl ⟨X9, S3.out.rep, S3.out.stp, rfl⟩
          simp [results, Try.results86]
          go_simp
          simp [Tr.kidV]
      · have Hok := Lib.hid hok
        have Fin := Lib.hid (HF.out.trans (saveN_no D hok))
        clear hok HF
        go_wp2_with (go_at_call 22; refine (may_any HNd.out.now false ⟨fun h => (by cases h), fun h => absurd h Hok.out⟩).mono ?_; rintro e w4 ⟨rfl, hb4⟩; (have S4 := Lib.hid (HS.out.below hb4)); (obtain ⟨s1, s2, s3, g1, g2, g3, ⟨f0, f1, f2⟩, ⟨v0, v1, v2⟩, r3, S3⟩ := S4.out.three ⟨rfl, rfl, rfl⟩ (.int .i64 0) (.int .i64 0) (.int .i64 0)); (have S3 := Lib.hid S3); (obtain ⟨t0, t1, t2⟩ := three_ r3); clear r3 hb4)
        rw [Fin.out]
        refine bodyPost_ret (v := .tuple #[Tr.kidV (0, 0, 0), .int .i64 4]) ?_ rfl ⟨_, S3.out.rep, S3.out.stp, (by decide), (0, 0, 0), rfl⟩
        simp [results, Try.results86]
        go_simp
        simp [Tr.kidV]
theorem save_is : ∀ (h : Nat), h ≤ 1000000 → SvC D h
  | 0, _ => save_zero D
  | h + 1, hh => save_succ D h (by omega) (save_is h (by omega))
end
end Go.Proofs.Ytlcchefiicalpaa
