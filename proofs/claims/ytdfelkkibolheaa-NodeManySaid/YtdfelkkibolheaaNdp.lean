/- The program's reader beside a node that is being read. -/
import Derived.Test.YtdfelkkibolheaaNdv
import Derived.Test.YtdfelkkibolheaaRd
namespace Go.Proofs.Ytdfelkkibolheaa
open Go.RowKit Vint

theorem panic_at {P : Program} (w : World) {G : Prop} (h : G) : wpAny P .any #[] (fun _ _ _ => True) 0 #[] { tmps := #[], defers := [] } w → G := fun _ => h
section
variable {w w' : World} {B R L H xb : Nat} {l : List Nat} {e : Int}
theorem Rd.below_ (h : Rd w B R L l e) (hb : Below w.heap.size w w') : Rd w' B R L l e := h.keep (F := fun _ => False) (Chg.of_below _ hb) (fun _ h => h.elim)
theorem Rd.set_ (h : Rd w B R L l e) (hx : xb < B) (i : Nat) (v : Value) : Rd (w.setCell ⟨xb, i, none⟩ v) B R L l e := h.keep (F := fun b => b = xb) ((Chg.refl (fun b => b = xb) w).setCell (p := ⟨xb, i, none⟩) (.inl rfl) v) (fun b hb => by rw [hb]; exact hx)
theorem Rd.grown_ (h : Rd w B R L l e) {t : TypeId} {size n : Nat} {u : Value} {xs : List Value} (ho : w.ownsRow H t size u n xs) (t1 : t ≠ 39) (t2 : t ≠ 93) (t3 : t ≠ 5) (hg : w.grownBy w' u.ownBlock) : Rd w' B R L l e := by
  obtain ⟨bR, bL, hb, hl, hlast, A, c, hblk, hlc, hA, hd⟩ := h
  refine ⟨bR, bL, hb, hl, hlast.keep (hg.block L hlast.lt fun e => own_ne ho hlast t1 L e.symm rfl), A, c, hblk.keep (hg.block R hblk.lt fun e => own_ne ho hblk t2 R e.symm rfl), hlc, hA, ?_⟩
  exact hd.keep fun b hlt cur hb => hg.block b hlt fun e => own_ne ho hb t3 b e.symm rfl
theorem pnum_ok (h : Rd w B R L l e) (h0 : (num l).2.2 = 0) {a : Nat} {m : List Nat} (ha : a = (num l).1) (hm : m = l.drop (num l).2.1) :
    Calls Try.prog 28 #[.pointer (some ⟨R, 0, none⟩)] w fun r w' => r = .returned (.int .i64 (a : Int)) ∧ Rd w' B R L m 0 ∧ Chg (RL R L) w w' := by
  rw [ha, hm]; exact rnum_ok h h0
theorem pnum_bad (h : Rd w B R L l e) {k : Nat} (hk : k = (num l).2.2) (h0 : k ≠ 0) :
    Calls Try.prog 28 #[.pointer (some ⟨R, 0, none⟩)] w fun r w' => r = .panicked [{ v := .iface 39 (.int .i64 (k : Int)), recovered := false }] ∧ Rd w' B R L l (k : Int) ∧ Chg (RL R L) w w' := by
  rw [hk] at h0 ⊢; exact rnum_bad h h0
end
/-- What reading a key may change. -/
def GX (xb R L H : Nat) : Nat → Prop := fun b => b = xb ∨ RL R L b ∨ H ≤ b
/-- A node that is being read, the program's reader beside it. -/
structure PS (w0 w : World) (B R L xb H : Nat) (hh : Int) (ks : List Int) (ps : List Nd.T3) (gs : List Int) (cs : List Nd.T3) (v1 v2 v3 v4 u1 u2 u3 u4 : Value) (l : List Nat) (e : Int) : Prop where
  rd : Rd w B R L l e
  nx : NX w xb H 66 88 hh ks ps gs cs v1 v2 v3 v4 u1 u2 u3 u4
  chg : Chg (GX xb R L H) w0 w
  hx : xb < B
  hR : R < H
  hL : L < H
section
variable {w0 w w' w6 : World} {B R L xb H : Nat} {hh : Int} {ks gs : List Int} {ps cs : List Nd.T3} {v1 v2 v3 v4 u1 u2 u3 u4 u v : Value} {l m : List Nat} {e e' : Int}
theorem PS.num (h : PS w0 w B R L xb H hh ks ps gs cs v1 v2 v3 v4 u1 u2 u3 u4 l e) (hr : Rd w' B R L m e') (hc : Chg (RL R L) w w') : PS w0 w' B R L xb H hh ks ps gs cs v1 v2 v3 v4 u1 u2 u3 u4 m e' :=
  ⟨hr, h.nx.chg hc (fun b hb => by have := h.rd.bR; have := h.rd.bL; have := h.hx; have := h.hR; have := h.hL; rcases hb with hb | hb <;> omega), h.chg.then_ (hc.mono fun _ h => .inr (.inl h)), h.hx, h.hR, h.hL⟩
theorem PS.below (h : PS w0 w B R L xb H hh ks ps gs cs v1 v2 v3 v4 u1 u2 u3 u4 l e) (hb : Below w.heap.size w w') : PS w0 w' B R L xb H hh ks ps gs cs v1 v2 v3 v4 u1 u2 u3 u4 l e :=
  ⟨h.rd.below_ hb, h.nx.below hb, h.chg.then_ (Chg.of_below _ hb), h.hx, h.hR, h.hL⟩
theorem PS.drew (h : PS w0 w B R L xb H hh ks ps gs cs v1 v2 v3 v4 u1 u2 u3 u4 l e) : PS w0 w.drew B R L xb H hh ks ps gs cs v1 v2 v3 v4 u1 u2 u3 u4 l e := h.below (Below.refl _ w).drew
theorem PS.alloc (h : PS w0 w B R L xb H hh ks ps gs cs v1 v2 v3 v4 u1 u2 u3 u4 l e) (x : Obj) : PS w0 (w.alloc x) B R L xb H hh ks ps gs cs v1 v2 v3 v4 u1 u2 u3 u4 l e := h.below ((Below.refl _ _).alloc (Nat.le_refl _) x)
theorem PS.set0 (h : PS w0 w B R L xb H hh ks ps gs cs v1 v2 v3 v4 u1 u2 u3 u4 l e) (hh' : Int) : PS w0 (w.setCell ⟨xb, 0, none⟩ (.int .i64 hh')) B R L xb H hh' ks ps gs cs v1 v2 v3 v4 u1 u2 u3 u4 l e :=
  ⟨h.rd.set_ h.hx 0 _, h.nx.set0 hh', h.chg.setCell (p := ⟨xb, 0, none⟩) (.inl (.inl rfl)) _, h.hx, h.hR, h.hL⟩
theorem PS.set1 (h : PS w0 w B R L xb H hh ks ps gs cs v1 v2 v3 v4 u1 u2 u3 u4 l e) (v : Value) : PS w0 (w.setCell ⟨xb, 1, none⟩ v) B R L xb H hh ks ps gs cs v v2 v3 v4 u1 u2 u3 u4 l e :=
  ⟨h.rd.set_ h.hx 1 _, h.nx.set1 v, h.chg.setCell (p := ⟨xb, 1, none⟩) (.inl (.inl rfl)) _, h.hx, h.hR, h.hL⟩
theorem PS.set2 (h : PS w0 w B R L xb H hh ks ps gs cs v1 v2 v3 v4 u1 u2 u3 u4 l e) (v : Value) : PS w0 (w.setCell ⟨xb, 2, none⟩ v) B R L xb H hh ks ps gs cs v1 v v3 v4 u1 u2 u3 u4 l e :=
  ⟨h.rd.set_ h.hx 2 _, h.nx.set2 v, h.chg.setCell (p := ⟨xb, 2, none⟩) (.inl (.inl rfl)) _, h.hx, h.hR, h.hL⟩
theorem PS.set3 (h : PS w0 w B R L xb H hh ks ps gs cs v1 v2 v3 v4 u1 u2 u3 u4 l e) (v : Value) : PS w0 (w.setCell ⟨xb, 3, none⟩ v) B R L xb H hh ks ps gs cs v1 v2 v v4 u1 u2 u3 u4 l e :=
  ⟨h.rd.set_ h.hx 3 _, h.nx.set3 v, h.chg.setCell (p := ⟨xb, 3, none⟩) (.inl (.inl rfl)) _, h.hx, h.hR, h.hL⟩
theorem PS.set4 (h : PS w0 w B R L xb H hh ks ps gs cs v1 v2 v3 v4 u1 u2 u3 u4 l e) (v : Value) : PS w0 (w.setCell ⟨xb, 4, none⟩ v) B R L xb H hh ks ps gs cs v1 v2 v3 v u1 u2 u3 u4 l e :=
  ⟨h.rd.set_ h.hx 4 _, h.nx.set4 v, h.chg.setCell (p := ⟨xb, 4, none⟩) (.inl (.inl rfl)) _, h.hx, h.hR, h.hL⟩
theorem PS.app1 (h : PS w0 w B R L xb H hh ks ps gs cs v1 v2 v3 v4 u1 u2 u3 u4 l e) (x : Int) {k : Nat} (hk : k = ks.length) (hown : w6.ownsRow H 3 1 u (k + 1) (ivs ks ++ [.int .i64 x])) (hg : w.grownBy w6 u1.ownBlock) (hb : u.ownBlock = u1.ownBlock ∨ u.ownBlock = some w.heap.size) : PS w0 w6 B R L xb H hh (ks ++ [x]) ps gs cs v1 v2 v3 v4 u u2 u3 u4 l e :=
  ⟨h.rd.grown_ h.nx.o1 (by decide) (by decide) (by decide) hg, (h.nx.app1 x hk hown hg hb).1, h.chg.grown hg (fun g hg' => .inl (.inr (.inr (h.nx.o1.lt g hg').1))), h.hx, h.hR, h.hL⟩
theorem PS.app2 (h : PS w0 w B R L xb H hh ks ps gs cs v1 v2 v3 v4 u1 u2 u3 u4 l e) (x : Nd.T3) {k : Nat} (hk : k = ps.length) (hown : w6.ownsRow H 84 3 u (k + 1) (tcs ps ++ [.int .i64 x.1, .int .i64 x.2.1, .int .i64 x.2.2])) (hg : w.grownBy w6 u2.ownBlock) (hb : u.ownBlock = u2.ownBlock ∨ u.ownBlock = some w.heap.size) : PS w0 w6 B R L xb H hh ks (ps ++ [x]) gs cs v1 v2 v3 v4 u1 u u3 u4 l e :=
  ⟨h.rd.grown_ h.nx.o2 (by decide) (by decide) (by decide) hg, (h.nx.app2 x hk hown hg hb).1, h.chg.grown hg (fun g hg' => .inl (.inr (.inr (h.nx.o2.lt g hg').1))), h.hx, h.hR, h.hL⟩
theorem PS.app3 (h : PS w0 w B R L xb H hh ks ps gs cs v1 v2 v3 v4 u1 u2 u3 u4 l e) (x : Int) {k : Nat} (hk : k = gs.length) (hown : w6.ownsRow H 3 1 u (k + 1) (ivs gs ++ [.int .i64 x])) (hg : w.grownBy w6 u3.ownBlock) (hb : u.ownBlock = u3.ownBlock ∨ u.ownBlock = some w.heap.size) : PS w0 w6 B R L xb H hh ks ps (gs ++ [x]) cs v1 v2 v3 v4 u1 u2 u u4 l e :=
  ⟨h.rd.grown_ h.nx.o3 (by decide) (by decide) (by decide) hg, (h.nx.app3 x hk hown hg hb).1, h.chg.grown hg (fun g hg' => .inl (.inr (.inr (h.nx.o3.lt g hg').1))), h.hx, h.hR, h.hL⟩
theorem PS.app4 (h : PS w0 w B R L xb H hh ks ps gs cs v1 v2 v3 v4 u1 u2 u3 u4 l e) (x : Nd.T3) {k : Nat} (hk : k = cs.length) (hown : w6.ownsRow H 88 3 u (k + 1) (tcs cs ++ [.int .i64 x.1, .int .i64 x.2.1, .int .i64 x.2.2])) (hg : w.grownBy w6 u4.ownBlock) (hb : u.ownBlock = u4.ownBlock ∨ u.ownBlock = some w.heap.size) : PS w0 w6 B R L xb H hh ks ps gs (cs ++ [x]) v1 v2 v3 v4 u1 u2 u3 u l e :=
  ⟨h.rd.grown_ h.nx.o4 (by decide) (by decide) (by decide) hg, (h.nx.app4 x hk hown hg hb).1, h.chg.grown hg (fun g hg' => .inl (.inr (.inr (h.nx.o4.lt g hg').1))), h.hx, h.hR, h.hL⟩
end
end Go.Proofs.Ytdfelkkibolheaa
