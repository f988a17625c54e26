/- Where a statement stands that has two memories. -/
import Derived.Test.YtlcchefiicalpaaTlaJ
namespace Go.Proofs.Ytlcchefiicalpaa
open Go.RowKit
/-- Two memories that share no block, what stays whatever becomes of both. -/
structure LV (B : Nat) (w0 : World) (p q : Nat) (w : World) (X Y : Nat → Prop) (st su : Tr.MSt) (K : World → Prop) : Prop where
  ra : MRep p w X st
  rb : MRep q w Y su
  dis : ∀ b, X b → ¬ Y b
  bel : Below B w0 w
  geA : ∀ b, X b → B ≤ b
  geB : ∀ b, Y b → B ≤ b
  sz : B ≤ w.heap.size
  kp : Fast (fun b => X b ∨ Y b) w K
section
variable {B p q : Nat} {w0 w w' : World} {X Y X' : Nat → Prop} {st su st' : Tr.MSt} {K P : World → Prop}
theorem LV.swap (h : LV B w0 p q w X Y st su K) : LV B w0 q p w Y X su st K :=
  ⟨h.rb, h.ra, fun b hy hx => h.dis b hx hy, h.bel, h.geB, h.geA, h.sz, h.kp.anti fun _ hb => hb.symm⟩
theorem LV.stp (h : LV B w0 p q w X Y st su K) (hr : MRep p w' X' st') (hs : Stp w X w' X') : LV B w0 p q w' X' Y st' su K :=
  ⟨hr, h.rb.keep hs.chg fun b hy hx => h.dis b hx hy,
    fun b hx hy => (hs.new b hx).elim (fun h1 => h.dis b h1 hy) fun hl => by have := h.rb.lt hy; omega,
    ⟨hs.chg.os.trans h.bel.os, hs.chg.tape.trans h.bel.tape, hs.chg.output.trans h.bel.output, Nat.le_trans h.bel.size hs.chg.size, fun b hb => (hs.chg.block b (Nat.lt_of_lt_of_le hb h.sz) (fun hx => by have := h.geA b hx; omega)).trans (h.bel.block b hb)⟩,
    fun b hb => (hs.new b hb).elim (h.geA b) fun hl => Nat.le_trans h.sz hl, h.geB, Nat.le_trans h.sz hs.chg.size, h.kp.step (hs.left Y)⟩
theorem LV.stpB {Y' : Nat → Prop} {su' : Tr.MSt} (h : LV B w0 p q w X Y st su K) (hr : MRep q w' Y' su') (hs : Stp w Y w' Y') : LV B w0 p q w' X Y' st su' K := (h.swap.stp hr hs).swap
theorem LV.below (h : LV B w0 p q w X Y st su K) (hb : Below w.heap.size w w') : LV B w0 p q w' X Y st su K :=
  h.stp (h.ra.keep (G := fun _ => False) (.of_below _ hb) fun _ _ h => h) (.of_below X hb)
theorem LV.and_ (h : LV B w0 p q w X Y st su K) (hp : Fast (fun b => X b ∨ Y b) w P) : LV B w0 p q w X Y st su fun u => K u ∧ P u := ⟨h.ra, h.rb, h.dis, h.bel, h.geA, h.geB, h.sz, h.kp.and_ hp⟩
theorem LV.fresh (h : LV B w0 p q w X Y st su K) : ¬ (X w.heap.size ∨ Y w.heap.size) := fun hx => hx.elim (fun h1 => Nat.lt_irrefl _ (h.ra.lt h1)) fun h1 => Nat.lt_irrefl _ (h.rb.lt h1)
theorem LV.new (h : LV B w0 p q w X Y st su K) (t : TypeId) (C : Array Value) : LV B w0 p q (w.alloc (.cells C t)) X Y st su fun u => K u ∧ Blk u w.heap.size t C :=
  (h.below (below_alloc1 w _)).and_ (Fast.blk (Blk.new w t C) h.fresh)
theorem LV.imp {K' : World → Prop} (h : LV B w0 p q w X Y st su K) (hK : ∀ u, K u → K' u) : LV B w0 p q w X Y st su K' := ⟨h.ra, h.rb, h.dis, h.bel, h.geA, h.geB, h.sz, h.kp.mono hK⟩
theorem LV.now (h : LV B w0 p q w X Y st su K) : K w := h.kp.now
/-- A store into a block of one's own. -/
theorem LV.chg {r : Nat} {K' : World → Prop} (h : LV B w0 p q w X Y st su K) (hc : Chg (fun b => b = r) w w') (hX : ¬ (X r ∨ Y r)) (hB : B ≤ r) (hK : Fast (fun b => X b ∨ Y b) w' K') : LV B w0 p q w' X Y st su K' :=
  ⟨h.ra.keep hc fun b hx hg => hX (.inl (hg ▸ hx)), h.rb.keep hc fun b hx hg => hX (.inr (hg ▸ hx)), h.dis, ⟨hc.os.trans h.bel.os, hc.tape.trans h.bel.tape, hc.output.trans h.bel.output, Nat.le_trans h.bel.size hc.size, fun b hb => (hc.block b (Nat.lt_of_lt_of_le hb h.sz) (fun e => by have e : b = r := e; omega)).trans (h.bel.block b hb)⟩, h.geA, h.geB, Nat.le_trans h.sz hc.size, hK⟩
end
/-- A second memory beside the first. -/
theorem lv_start {B p : Nat} {w0 w : World} {X : Nat → Prop} {st : Tr.MSt} {K : World → Prop} (h : LW B w0 p w X st K) : LV B w0 p w.heap.size (w.alloc (.cells #[.slice none 0 0, .int .i64 0, .int .i64 0, .int .i64 0, .int .i64 0] 64)) X (fun b => b = w.heap.size) st ⟨[], 0, 0, 0, 0⟩ K :=
  ⟨(h.below (below_alloc1 w _)).rep, mrep_new w, fun b hx hy => Nat.lt_irrefl _ (by have := h.rep.lt hx; rw [hy] at this; exact this), (h.below (below_alloc1 w _)).bel, h.ge, fun b hb => by have hb : b = w.heap.size := hb; have := h.sz; omega, (h.below (below_alloc1 w _)).sz,
    fun u k => h.kp u ⟨k.os, k.tape, k.output, by have := k.size; simp at this; omega, fun b hb hx => (k.block b (by simp; omega) fun h2 => h2.elim hx fun e => by have e : b = w.heap.size := e; omega).trans ((below_alloc1 w _).block b hb)⟩⟩
/-- A memory beside another one that stays. -/
def MRep2 (p q : Nat) (su : Tr.MSt) (w : World) (Z : Nat → Prop) (st : Tr.MSt) : Prop := ∃ X Y : Nat → Prop, Z = (fun b => X b ∨ Y b) ∧ (∀ b, X b → ¬ Y b) ∧ MRep p w X st ∧ MRep q w Y su
theorem rep2_step {p q : Nat} {su st' : Tr.MSt} {w w' : World} {X Y X' : Nat → Prop} (hd : ∀ b, X b → ¬ Y b) (h2 : MRep q w Y su) (hr : MRep p w' X' st') (hs : Stp w X w' X') : MRep2 p q su w' (fun b => X' b ∨ Y b) st' ∧ Stp w (fun b => X b ∨ Y b) w' (fun b => X' b ∨ Y b) :=
  ⟨⟨X', Y, rfl, fun b hx hy => (hs.new b hx).elim (fun h1 => hd b h1 hy) fun hl => by have := h2.lt hy; omega, hr, h2.keep hs.chg fun b hy hx => hd b hx hy⟩, hs.left Y⟩
noncomputable def memI2 (p q : Nat) (su : Tr.MSt) : StoI Tr.MSt where
  S := (memI p).S
  t := (memI p).t
  v := (memI p).v
  fL := (memI p).fL
  fS := (memI p).fS
  rL := (memI p).rL
  rS := (memI p).rS
  Rep := MRep2 p q su
  hL := (memI p).hL
  hS := (memI p).hS
  eL := (memI p).eL
  eS := (memI p).eS
  lt := fun ⟨_, _, e, _, h1, h2⟩ hb => by
    subst e
    exact hb.elim h1.lt h2.lt
  keep := fun ⟨X, Y, e, hd, h1, h2⟩ hc hg => by
    subst e
    exact ⟨X, Y, rfl, hd, h1.keep hc fun b hb => hg b (.inl hb), h2.keep hc fun b hb => hg b (.inr hb)⟩
  err := (memI p).err
  errS := (memI p).errS
  load := fun ⟨X, Y, e, hd, h1, h2⟩ k hk => by
    subst e
    refine ((memI p).load h1 k hk).mono fun e w' he => ?_
    obtain ⟨X', hr, hs, v, c, e1, e2⟩ := he
    obtain ⟨g1, g2⟩ := rep2_step hd h2 hr hs
    refine ⟨_, g1, g2, v, c, e1, ?_⟩
    have anti : ∀ {n : Nd.N}, NdN _ X' w' v n → NdN _ (fun b => X' b ∨ Y b) w' v n := fun h => Fast.anti h fun b hb => hb.elim (fun h => h.elim .inl fun hy => .inr (h2.lt hy)) .inr
    revert e2
    split
    · exact fun e2 => ⟨e2.1, anti e2.2⟩
    · exact fun e2 => ⟨e2.1, anti e2.2⟩
  save := fun ⟨X, Y, e, hd, h1, h2⟩ hn hok => by
    subst e
    refine ((memI p).save h1 (Fast.anti hn fun b hb => .inl hb) hok).mono fun e w' he => ?_
    obtain ⟨X', hr, hs, k, c, e1, e2⟩ := he
    obtain ⟨g1, g2⟩ := rep2_step hd h2 hr hs
    exact ⟨_, g1, g2, k, c, e1, e2⟩
/-- All, beside another memory. -/
theorem tall2 {p q : Nat} {w : World} {X Y : Nat → Prop} {st su : Tr.MSt} {k : Nd.T3} {h : Int} {m : List Tr.E} (hr : MRep p w X st) (h2 : MRep q w Y su) (hd : ∀ b, X b → ¬ Y b) (hb : st.bl = 0) (hk : Tr.RootOk st.L k h m) : Calls Try.prog 35 #[memV p, Tr.rootV k h] w fun e w' => ∃ X' Y' st' A c, e = .returned (.tuple #[.slice A m.length c, .int .i64 0]) ∧ (∀ b, X' b → ¬ Y' b) ∧ MRep p w' X' st' ∧ MRep q w' Y' su ∧ Stp w (fun b => X b ∨ Y b) w' (fun b => X' b ∨ Y' b) ∧ Tr.KS st st' ∧ Fast (fun b => X' b ∨ Y' b) w' fun u => SlC u u.heap.size A c m.length (evs m) := by
  refine (all_any (memI2 p q su) (X := fun b => X b ∨ Y b) ⟨X, Y, rfl, hd, hr, h2⟩ hk.kr).mono fun e w' he => ?_
  obtain ⟨st', h1, h2⟩ := Tr.all_calm hb hk
  have h1 : Tr.walk (memI2 p q su).S Tr.allG h.toNat st (Tr.trunk k h) = (st', .ok m) := h1
  rw [h1] at he
  obtain ⟨Z', ⟨X', Y', e0, g1, g2, g3⟩, e2, A, c, e3, e4⟩ := he
  subst e0
  exact ⟨X', Y', st', A, c, e3, g1, g2, g3, e2, h2, e4⟩
section
variable {B p q : Nat} {w0 w w' : World} {X Y X' Y' : Nat → Prop} {st su st' su' : Tr.MSt} {K : World → Prop}
theorem LV.stp2 (h : LV B w0 p q w X Y st su K) (ha : MRep p w' X' st') (hb : MRep q w' Y' su') (hd : ∀ b, X' b → ¬ Y' b) (hs : Stp w (fun b => X b ∨ Y b) w' (fun b => X' b ∨ Y' b)) : LV B w0 p q w' X' Y' st' su' K :=
  ⟨ha, hb, hd,
    ⟨hs.chg.os.trans h.bel.os, hs.chg.tape.trans h.bel.tape, hs.chg.output.trans h.bel.output, Nat.le_trans h.bel.size hs.chg.size, fun b hb => (hs.chg.block b (Nat.lt_of_lt_of_le hb h.sz) (fun hx => hx.elim (fun hx => by have := h.geA b hx; omega) fun hx => by have := h.geB b hx; omega)).trans (h.bel.block b hb)⟩,
    fun b hb => (hs.new b (.inl hb)).elim (fun h1 => h1.elim (h.geA b) (h.geB b)) fun hl => Nat.le_trans h.sz hl, fun b hb => (hs.new b (.inr hb)).elim (fun h1 => h1.elim (h.geA b) (h.geB b)) fun hl => Nat.le_trans h.sz hl, Nat.le_trans h.sz hs.chg.size, h.kp.step hs⟩
end
end Go.Proofs.Ytlcchefiicalpaa
