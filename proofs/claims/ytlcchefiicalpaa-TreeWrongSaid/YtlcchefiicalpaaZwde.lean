/- Calls of the tree with the statements' memory, where the root stands right: what they answer and leave. The statements' awake: two entries are put, one is cut. -/
import Derived.Test.YtlcchefiicalpaaZwbi
import Derived.Test.YtlcchefiicalpaaZwch
import Derived.Test.YtlcchefiicalpaaZwdc
import Derived.Test.YtlcchefiicalpaaZwdd
namespace Go.Proofs.Ytlcchefiicalpaa
open Go.RowKit
namespace Tr
/-- No load, no save fails; at most N nodes are saved. -/
structure Calm (st : MSt) (N : Nat) : Prop where
  bl : st.bl = 0
  bs : st.bs = 0
  inv : Inv st
  len : st.L.length ≤ N
theorem Calm.mono {st : MSt} {N N' : Nat} (h : Calm st N) (hN : N ≤ N') : Calm st N' := ⟨h.bl, h.bs, h.inv, Nat.le_trans h.len hN⟩
theorem Calm.mor {st st' : MSt} {N n : Nat} (h : Calm st N) (k : Mor st st' n) : Calm st' (N + n) := by
  obtain ⟨l, h1, h2⟩ := k.L
  exact ⟨k.bl.trans h.bl, k.bs.trans h.bs, k.inv h.inv, by rw [h1, List.length_append, h2]; have := h.len; omega⟩
theorem Calm.not_err {st st' : MSt} {N n : Nat} {e : Int} (h : Calm st N) (hN : N + n ≤ 8000) (k : ErrC st n st' e) : False := by
  obtain ⟨l, h1, h2⟩ := k.L
  have hl := h.len
  have hb := h.bl
  have hs := h.bs
  rcases k.why with ⟨-, h3⟩ | ⟨-, h3 | h3⟩
  · omega
  · omega
  · rw [h1, List.length_append] at h3; omega
theorem Calm.not_e7 {st st' : MSt} {N n : Nat} {e : Int} (h : Calm st N) (hN : N + n ≤ 8000) (k : E7 st n st' e) : False :=
  h.not_err hN ⟨k.L, k.bl, k.bs, .inr ⟨k.e, k.why⟩⟩
theorem RootOk.kr {M : List Nd.N} {k : Nd.T3} {h : Int} {m : List E} (hr : RootOk M k h m) : KR k := by
  obtain ⟨hn, -, -, -, -, h5, -⟩ := hr
  exact kr_ok h5
theorem edk_put {L : List E} (hL : ∀ e ∈ L, EOk e) : EdK (edPut L) := fun x hx => by
  obtain ⟨e, he, rfl⟩ := List.mem_map.1 hx
  exact ⟨(hL e he).1, fun _ => hL e he⟩
theorem edk_cut {ks : List Int} (hk : ∀ x ∈ ks, 0 ≤ x ∧ x < 512) : EdK (edCut ks) := fun x hx => by
  obtain ⟨k, h, rfl⟩ := List.mem_map.1 hx
  exact ⟨hk k h, fun h => by cases h⟩
theorem put_good {st : MSt} {k : Nd.T3} {h : Int} {m L : List E} (hr : RootOk st.L k h m) (hL : ∀ e ∈ L, EOk e) : Ends (putP mem st k h L) (fun st' r => (∃ n, Mor st st' n ∧ n ≤ 15 * L.length + 6) ∧ RootOk st'.L r.1 r.2 (puts m L)) (ErrC st (15 * L.length + 6)) := by
  have := change_good hr (edk_put hL)
  rw [merged_put hr.asc.1, show (edPut L).length = L.length from List.length_map ..] at this
  rw [putP_yes mem hL]
  exact this
theorem cut_good {st : MSt} {k : Nd.T3} {h : Int} {m : List E} {ks : List Int} (hr : RootOk st.L k h m) (hk : ∀ x ∈ ks, 0 ≤ x ∧ x < 512) : Ends (cutP mem st k h ks) (fun st' r => (∃ n, Mor st st' n ∧ n ≤ 15 * ks.length + 6) ∧ RootOk st'.L r.1 r.2 (cuts m ks)) (ErrC st (15 * ks.length + 6)) := by
  have := change_good hr (edk_cut hk)
  rw [merged_cut hr.asc.1, show (edCut ks).length = ks.length from List.length_map ..] at this
  rw [cutP_yes mem hk]
  exact this
theorem empty_good (st : MSt) : Ends (plant mem 0 [] st) (fun st' r => Mor st st' 1 ∧ RootOk st'.L r.1 r.2 []) (E7 st 0) := by
  have hs := save_good (h := 0) (by decide) (st := st) (l := []) (lo := 0) (hi := 512) (by decide) (by decide) (show (0 : Int) ≤ 512 by decide) Wfs.nil (by decide) (fun q hq => by cases hq) (fun h => absurd h (by decide))
  rw [plant_zero, up_save mem st (Nat.zero_le _)]
  unfold SvO at hs
  rcases e : save mem 0 st [] with ⟨st1, er | k⟩
  · rw [e] at hs
    exact hs
  · rw [e] at hs
    obtain ⟨s1, s2, s3, s4, s5⟩ := hs
    exact ⟨s1, 0, rfl, by decide, s2, trivial, s4, s3⟩
/-- What a calm memory's Put and so on answer. -/
theorem put_calm {st : MSt} {k : Nd.T3} {h : Int} {m L : List E} {N : Nat} (hc : Calm st N) (hN : N + (15 * L.length + 6) ≤ 8000) (hr : RootOk st.L k h m) (hL : ∀ e ∈ L, EOk e) : ∃ st' k' h', putP mem st k h L = (st', .ok (k', h')) ∧ (∃ n, Mor st st' n ∧ n ≤ 15 * L.length + 6) ∧ RootOk st'.L k' h' (puts m L) := by
  have h := put_good hr hL
  rcases e : putP mem st k _ L with ⟨st', er | ⟨k', h'⟩⟩
  · rw [e] at h; exact (hc.not_err hN h).elim
  · rw [e] at h; exact ⟨st', k', h', rfl, h.1, h.2⟩
theorem cut_calm {st : MSt} {k : Nd.T3} {h : Int} {m : List E} {ks : List Int} {N : Nat} (hc : Calm st N) (hN : N + (15 * ks.length + 6) ≤ 8000) (hr : RootOk st.L k h m) (hk : ∀ x ∈ ks, 0 ≤ x ∧ x < 512) : ∃ st' k' h', cutP mem st k h ks = (st', .ok (k', h')) ∧ (∃ n, Mor st st' n ∧ n ≤ 15 * ks.length + 6) ∧ RootOk st'.L k' h' (cuts m ks) := by
  have h := cut_good hr hk
  rcases e : cutP mem st k _ ks with ⟨st', er | ⟨k', h'⟩⟩
  · rw [e] at h; exact (hc.not_err hN h).elim
  · rw [e] at h; exact ⟨st', k', h', rfl, h.1, h.2⟩
/-- All and Get, of a root that stands right. -/
theorem all_calm {st : MSt} {k : Nd.T3} {h : Int} {m : List E} (hb : st.bl = 0) (hr : RootOk st.L k h m) : ∃ st', walk mem allG h.toNat st (trunk k h) = (st', .ok m) ∧ KS st st' := by
  obtain ⟨hn, rfl, h5, hg, hk, ho, hm⟩ := hr
  rw [Int.toNat_natCast]
  have hK : Able mem MSt.L fun st' => KS st st' ∧ st'.bl = 0 := ⟨fun {st' k} hp hi => mem_able.ok hp.2 hi, fun {st' k} hp => ⟨⟨hp.1.L, hp.1.sv, hp.1.bl, hp.1.bs⟩, hp.2⟩⟩
  obtain ⟨w1, w2, w3⟩ := walk_all mem_brings hK allG (h := hn) (st := st) (b := trunk k (hn : Int)) ⟨KS.refl st, hb⟩ rfl hg
  have hga := gath_all (M := st.L) (b := trunk k (hn : Int)) hg
  rw [hga] at w1
  have hm' : ent st.L hn (trunk k (hn : Int)).k.1 = m := hm
  rw [hm'] at w1
  rcases e : walk mem allG hn st (trunk k (hn : Int)) with ⟨st', r⟩
  rw [e] at w1 w3
  dsimp only at w1
  subst w1
  exact ⟨st', rfl, w3.1⟩
theorem get_calm {st : MSt} {k : Nd.T3} {h key : Int} {m : List E} (hb : st.bl = 0) (hr : RootOk st.L k h m) (hk5 : key < 512) : ∃ st', getP mem h.toNat st (trunk k h) key = (st', .ok (get m key)) ∧ KS st st' := by
  obtain ⟨hn, rfl, h5, hg, hk, ho, hm⟩ := hr
  rw [Int.toNat_natCast]
  have hK : Able mem MSt.L fun st' => KS st st' ∧ st'.bl = 0 := ⟨fun {st' k} hp hi => mem_able.ok hp.2 hi, fun {st' k} hp => ⟨⟨hp.1.L, hp.1.sv, hp.1.bl, hp.1.bs⟩, hp.2⟩⟩
  obtain ⟨w1, w2, w3⟩ := getP_all mem_brings hK key (h := hn) (st := st) (b := trunk k (hn : Int)) ⟨KS.refl st, hb⟩ rfl hg hk5
  have hm' : ent st.L hn (trunk k (hn : Int)).k.1 = m := hm
  rw [hm'] at w1
  rcases e : getP mem hn st (trunk k (hn : Int)) key with ⟨st', r⟩
  rw [e] at w1 w3
  dsimp only at w1
  subst w1
  exact ⟨st', rfl, w3.1⟩
end Tr
/-- The memory as the tree is handed it. -/
def memV (p : Nat) : Value := .iface 61 (.pointer (some ⟨p, 0, none⟩))
/-- What a call that gives a root leaves: the memory has more, and the root stands right. -/
def RtO (p : Nat) (w : World) (X : Nat → Prop) (st : Tr.MSt) (n : Nat) (m : List Tr.E) (e : Ending) (w' : World) : Prop := ∃ X' st' k' h', e = .returned (.tuple #[Tr.rootV k' h', .int .i64 0]) ∧ MRep p w' X' st' ∧ Stp w X w' X' ∧ (∃ q, Tr.Mor st st' q ∧ q ≤ n) ∧ Tr.RootOk st'.L k' h' m
section
variable {p : Nat} {w : World} {X : Nat → Prop} {st : Tr.MSt} {k : Nd.T3} {h : Int} {m : List Tr.E} {N : Nat}
theorem tput (hr : MRep p w X st) (hc : Tr.Calm st N) (hk : Tr.RootOk st.L k h m) {L : List Tr.E} {A : Option Addr} {c n : Nat} (hl : SlC w w.heap.size A c n (evs L)) (hn : L.length = n) (hN : N + (15 * n + 6) ≤ 8000) (hL : ∀ e ∈ L, Tr.EOk e) :
    Calls Try.prog 39 #[memV p, Tr.rootV k h, .slice A n c] w (RtO p w X st (15 * n + 6) (Tr.puts m L)) := by
  subst hn
  refine (put_any (memI p) inorder_any hr hl rfl (by omega) hk.kr fun _ => Tr.root_plok hk (Tr.edk_put hL)).mono fun e w' he => ?_
  obtain ⟨st', k', h', h1, h2, h3⟩ := Tr.put_calm hc hN hk hL
  have h1 : Tr.putP (memI p).S st k h L = (st', .ok (k', h')) := h1
  rw [h1] at he
  obtain ⟨X', e1, e2, e3⟩ := he
  exact ⟨X', st', k', h', e3, e1, e2, h2, h3⟩
theorem tcut (hr : MRep p w X st) (hc : Tr.Calm st N) (hk : Tr.RootOk st.L k h m) {ks : List Int} {A : Option Addr} {c n : Nat} (hl : SlC w w.heap.size A c n (ivs ks)) (hn : ks.length = n) (hN : N + (15 * n + 6) ≤ 8000) (hL : ∀ x ∈ ks, 0 ≤ x ∧ x < 512) :
    Calls Try.prog 40 #[memV p, Tr.rootV k h, .slice A n c] w (RtO p w X st (15 * n + 6) (Tr.cuts m ks)) := by
  subst hn
  refine (cut_any (memI p) inorder_any hr hl rfl (by omega) hk.kr fun _ => Tr.root_plok hk (Tr.edk_cut hL)).mono fun e w' he => ?_
  obtain ⟨st', k', h', h1, h2, h3⟩ := Tr.cut_calm hc hN hk hL
  have h1 : Tr.cutP (memI p).S st k h ks = (st', .ok (k', h')) := h1
  rw [h1] at he
  obtain ⟨X', e1, e2, e3⟩ := he
  exact ⟨X', st', k', h', e3, e1, e2, h2, h3⟩
theorem tempty (hr : MRep p w X st) (hc : Tr.Calm st N) (hN : N ≤ 8000) : Calls Try.prog 32 #[memV p] w (RtO p w X st 1 []) := by
  refine (empty_any (memI p) hr).mono fun e w' he => ?_
  have hg := Tr.empty_good st
  have e0 : Tr.plant (memI p).S 0 [] st = Tr.plant Tr.mem 0 [] st := rfl
  rw [e0] at he
  rcases e1 : Tr.plant Tr.mem 0 [] st with ⟨st', er | ⟨k', h'⟩⟩
  · rw [e1] at hg; exact (hc.not_e7 (by omega) hg).elim
  · rw [e1] at hg he
    obtain ⟨X', j1, j2, j3⟩ := he
    exact ⟨X', st', k', h', j3, j1, j2, ⟨1, hg.1, Nat.le_refl _⟩, hg.2⟩
/-- What All leaves. -/
def AlO (p : Nat) (w : World) (X : Nat → Prop) (st : Tr.MSt) (m : List Tr.E) (e : Ending) (w' : World) : Prop := ∃ X' st' A c, e = .returned (.tuple #[.slice A m.length c, .int .i64 0]) ∧ MRep p w' X' st' ∧ Stp w X w' X' ∧ Tr.KS st st' ∧ Fast X' w' fun u => SlC u u.heap.size A c m.length (evs m)
theorem tall (hr : MRep p w X st) (hb : st.bl = 0) (hk : Tr.RootOk st.L k h m) : Calls Try.prog 35 #[memV p, Tr.rootV k h] w (AlO p w X st m) := by
  refine (all_any (memI p) hr hk.kr).mono fun e w' he => ?_
  obtain ⟨st', h1, h2⟩ := Tr.all_calm hb hk
  have h1 : Tr.walk (memI p).S Tr.allG h.toNat st (Tr.trunk k h) = (st', .ok m) := h1
  rw [h1] at he
  obtain ⟨X', e1, e2, A, c, e3, e4⟩ := he
  exact ⟨X', st', A, c, e3, e1, e2, h2, e4⟩
def GtO (p : Nat) (w : World) (X : Nat → Prop) (st : Tr.MSt) (o : Option Tr.E) (e : Ending) (w' : World) : Prop := ∃ X' st', e = .returned (Tr.entV o) ∧ MRep p w' X' st' ∧ Stp w X w' X' ∧ Tr.KS st st'
theorem tget (hr : MRep p w X st) (hb : st.bl = 0) (hk : Tr.RootOk st.L k h m) {key : Int} (h0 : 0 ≤ key ∧ key < 512) : Calls Try.prog 37 #[memV p, Tr.rootV k h, .int .i64 key] w (GtO p w X st (Tr.get m key)) := by
  refine (get_any (memI p) hr hk.kr).mono fun e w' he => ?_
  obtain ⟨st', h1, h2⟩ := Tr.get_calm hb hk h0.2
  have h1 : Tr.getP (memI p).S h.toNat st (Tr.trunk k h) key = (st', .ok (Tr.get m key)) := h1
  have he := he.1 h0
  rw [h1] at he
  obtain ⟨X', e1, e2, e3⟩ := he
  exact ⟨X', st', e3, e1, e2, h2⟩
end
/-- Where a statement stands: its memory, what it may have changed, and what stays whatever becomes of the memory. -/
structure LW (B : Nat) (w0 : World) (p : Nat) (w : World) (X : Nat → Prop) (st : Tr.MSt) (K : World → Prop) : Prop where
  rep : MRep p w X st
  bel : Below B w0 w
  ge : ∀ b, X b → B ≤ b
  sz : B ≤ w.heap.size
  kp : Fast X w K
theorem LW.stp {B : Nat} {w0 w w' : World} {p : Nat} {X X' : Nat → Prop} {st st' : Tr.MSt} {K : World → Prop} (h : LW B w0 p w X st K) (hr : MRep p w' X' st') (hs : Stp w X w' X') : LW B w0 p w' X' st' K :=
  ⟨hr, ⟨hs.chg.os.trans h.bel.os, hs.chg.tape.trans h.bel.tape, hs.chg.output.trans h.bel.output, Nat.le_trans h.bel.size hs.chg.size, fun b hb => (hs.chg.block b (Nat.lt_of_lt_of_le hb h.sz) (fun hx => by have := h.ge b hx; omega)).trans (h.bel.block b hb)⟩,
    fun b hb => (hs.new b hb).elim (h.ge b) fun hl => Nat.le_trans h.sz hl, Nat.le_trans h.sz hs.chg.size, h.kp.step hs⟩
theorem LW.below {B : Nat} {w0 w w' : World} {p : Nat} {X : Nat → Prop} {st : Tr.MSt} {K : World → Prop} (h : LW B w0 p w X st K) (hb : Below w.heap.size w w') : LW B w0 p w' X st K :=
  h.stp (h.rep.keep (G := fun _ => False) (.of_below _ hb) fun _ _ h => h) (.of_below X hb)
theorem LW.and_ {B : Nat} {w0 w : World} {p : Nat} {X : Nat → Prop} {st : Tr.MSt} {K P : World → Prop} (h : LW B w0 p w X st K) (hp : Fast X w P) : LW B w0 p w X st fun u => K u ∧ P u := ⟨h.rep, h.bel, h.ge, h.sz, h.kp.and_ hp⟩
theorem LW.fresh {B : Nat} {w0 w : World} {p : Nat} {X : Nat → Prop} {st : Tr.MSt} {K : World → Prop} (h : LW B w0 p w X st K) : ¬ X w.heap.size := fun hx => Nat.lt_irrefl _ (h.rep.lt hx)
/-- A new block beside. -/
theorem LW.new {B : Nat} {w0 w : World} {p : Nat} {X : Nat → Prop} {st : Tr.MSt} {K : World → Prop} (h : LW B w0 p w X st K) (t : TypeId) (C : Array Value) : LW B w0 p (w.alloc (.cells C t)) X st fun u => K u ∧ Blk u w.heap.size t C :=
  (h.below (below_alloc1 w _)).and_ (Fast.blk (Blk.new w t C) h.fresh)
theorem LW.imp {B : Nat} {w0 w : World} {p : Nat} {X : Nat → Prop} {st : Tr.MSt} {K K' : World → Prop} (h : LW B w0 p w X st K) (hK : ∀ u, K u → K' u) : LW B w0 p w X st K' := ⟨h.rep, h.bel, h.ge, h.sz, h.kp.mono hK⟩
theorem LW.now {B : Nat} {w0 w : World} {p : Nat} {X : Nat → Prop} {st : Tr.MSt} {K : World → Prop} (h : LW B w0 p w X st K) : K w := h.kp.now
end Go.Proofs.Ytlcchefiicalpaa
namespace Go.Proofs.Ytlcchefiicalpaa
open Go.RowKit
theorem slc_new {w : World} {t : TypeId} (C : Array Value) (n : Nat) : SlC (w.alloc (.cells C t)) (w.alloc (.cells C t)).heap.size (some ⟨w.heap.size, 0, none⟩) n n C.toList :=
  ⟨Nat.le_refl _, (fun e => by cases e), .inr ⟨w.heap.size, 0, rfl, by simp, fun i hi => by
    rw [Nat.zero_add, (Blk.new w t C).cell i]
    simp at hi ⊢⟩⟩
namespace Tr
def w1 : E := ⟨1, (9, 1, 0), 0⟩
def w2 : E := ⟨2, (9, 1, 0), 0⟩
theorem w_puts : puts [] [w1, w2] = [w1, w2] := rfl
theorem w_cuts : cuts [w1, w2] [1] = [w2] := rfl
theorem w_get : get [w1, w2] 1 = some w1 := rfl
theorem w_ok : ∀ e ∈ [w1, w2], EOk e := fun e he => by
  rcases List.mem_cons.1 he with rfl | he
  · unfold EOk Nd.PlaceOk Nd.RunOk Nd.GenOk w1; decide
  · rw [List.mem_singleton] at he
    subst he
    unfold EOk Nd.PlaceOk Nd.RunOk Nd.GenOk w2; decide
theorem calm0 : Calm ⟨[], 0, 0, 0, 0⟩ 0 := ⟨rfl, rfl, ⟨rfl, Nat.zero_le _⟩, Nat.le_refl _⟩
end Tr
set_option maxRecDepth 8000 in
set_option maxHeartbeats 16000000 in
theorem tawake_any (w : World) : Calls Try.prog 30 #[] w fun e w' => e = .returned (.bool true) ∧ Below w.heap.size w w' := by
  obtain ⟨p, hp⟩ : ∃ p, w.heap.size = p := ⟨_, rfl⟩
  obtain ⟨W1, hW1⟩ : ∃ W, w.alloc (.cells #[.slice none 0 0, .int .i64 0, .int .i64 0, .int .i64 0, .int .i64 0] 64) = W := ⟨_, rfl⟩
  have L1 : LW p w p W1 (fun b => b = p) ⟨[], 0, 0, 0, 0⟩ fun _ => True := by
    subst hp
    rw [← hW1]
    exact ⟨mrep_new w, below_alloc1 _ _, fun b hb => Nat.le_of_eq hb.symm, by simp, fun _ _ => trivial⟩
  have HE := Lib.hid (tempty L1.rep Tr.calm0 (by decide))
  have H1 := Lib.hid L1
  unfold memV at HE
  rw [hp]
  clear L1
  go_enter Try.func30, Try.ntmps30
  go_upto_region 3 with (go_at_call 32; (with_reducible refine HE.out.mono ?_); rintro e w2 ⟨X2, st2, k2, h2, rfl, r2, s2, ⟨q2, m2, l2⟩, o2⟩; unfold Tr.rootV; (have H2 := Lib.hid (H1.out.stp r2 s2)); (have C2 := Lib.hid ((Tr.calm0.mor m2).mono (show 0 + q2 ≤ 1 by omega))); (have O2 := Lib.hid o2); (obtain ⟨b2, hb2⟩ : ∃ b, w2.heap.size = b := ⟨_, rfl⟩); (obtain ⟨W2, hW2⟩ : ∃ W, w2.alloc (.cells #[.int .i64 k2.1, .int .i64 k2.2.1, .int .i64 k2.2.2, .int .i64 h2] 66) = W := ⟨_, rfl⟩); (have N2 := Lib.hid (by have := H2.out.new 66 #[.int .i64 k2.1, .int .i64 k2.2.1, .int .i64 k2.2.2, .int .i64 h2]; rw [hW2, hb2] at this; exact this)); (have E2 := Lib.hid m2.L); clear r2 s2 m2 l2 o2)
  have R2 := N2.out.now.2
  have x0 := R2.cell 0
  have x1 := R2.cell 1
  have x2 := R2.cell 2
  have x3 := R2.cell 3
  obtain ⟨g3, hg3⟩ : ∃ g, W2.heap.size = g := ⟨_, rfl⟩
  obtain ⟨W3, hW3⟩ : ∃ W, W2.alloc (.cells #[.int .i64 1, .int .i64 9, .int .i64 1, .int .i64 0, .int .i64 0, .int .i64 2, .int .i64 9, .int .i64 1, .int .i64 0, .int .i64 0] 84) = W := ⟨_, rfl⟩
  have N3 := Lib.hid (show LW p w p W3 X2 st2 _ from N2.out.below (hW3 ▸ below_alloc1 W2 _))
  have HP := Lib.hid (by
    have hs := slc_new (w := W2) (t := 84) #[.int .i64 1, .int .i64 9, .int .i64 1, .int .i64 0, .int .i64 0, .int .i64 2, .int .i64 9, .int .i64 1, .int .i64 0, .int .i64 0] 2
    rw [hW3, hg3] at hs
    exact tput N3.out.rep C2.out O2.out (L := [Tr.w1, Tr.w2]) hs rfl (by decide) Tr.w_ok)
  unfold memV Tr.rootV at HP
  rw [Tr.w_puts] at HP
  clear hb2 hW2 hp hW1 R2
  go_upto_region 4 with (go_at_call 39; (with_reducible refine HP.out.mono ?_); rintro e w4 ⟨X4, st4, k4, h4, rfl, r4, s4, ⟨q4, m4, l4⟩, o4⟩; unfold Tr.rootV; (have H4 := Lib.hid (N3.out.stp r4 s4)); (have C4 := Lib.hid ((C2.out.mor m4).mono (show 1 + q4 ≤ 100 by omega))); (have O4 := Lib.hid o4); (obtain ⟨b4, hb4⟩ : ∃ b, w4.heap.size = b := ⟨_, rfl⟩); (obtain ⟨W4, hW4⟩ : ∃ W, w4.alloc (.cells #[.int .i64 k4.1, .int .i64 k4.2.1, .int .i64 k4.2.2, .int .i64 h4] 66) = W := ⟨_, rfl⟩); (have N4 := Lib.hid (by have := H4.out.new 66 #[.int .i64 k4.1, .int .i64 k4.2.1, .int .i64 k4.2.2, .int .i64 h4]; rw [hW4, hb4] at this; exact this)); (have E4 := Lib.hid m4.L); clear r4 s4 m4 l4 o4)
  have R4 := N4.out.now.2
  have y0 := R4.cell 0
  have y1 := R4.cell 1
  have y2 := R4.cell 2
  have y3 := R4.cell 3
  obtain ⟨g5, hg5⟩ : ∃ g, W4.heap.size = g := ⟨_, rfl⟩
  obtain ⟨W5, hW5⟩ : ∃ W, W4.alloc (.cells #[.int .i64 1] 3) = W := ⟨_, rfl⟩
  have N5 := Lib.hid (show LW p w p W5 X4 st4 _ from N4.out.below (hW5 ▸ below_alloc1 W4 _))
  have HC := Lib.hid (by
    have hs := slc_new (w := W4) (t := 3) #[.int .i64 1] 1
    rw [hW5, hg5] at hs
    exact tcut N5.out.rep C4.out O4.out (ks := [1]) hs rfl (by decide) (fun x hx => by rw [List.mem_singleton] at hx; subst hx; decide))
  unfold memV Tr.rootV at HC
  rw [Tr.w_cuts] at HC
  clear hb4 hW4 hW3 hg3 x0 x1 x2 x3 R4
  go_upto_region 5 with (go_at_call 40; (with_reducible refine HC.out.mono ?_); rintro e w6 ⟨X6, st6, k6, h6, rfl, r6, s6, ⟨q6, m6, l6⟩, o6⟩; unfold Tr.rootV; (have H6 := Lib.hid (N5.out.stp r6 s6)); (have C6 := Lib.hid ((C4.out.mor m6).mono (show 100 + q6 ≤ 200 by omega))); (have O6 := Lib.hid o6); (obtain ⟨b6, hb6⟩ : ∃ b, w6.heap.size = b := ⟨_, rfl⟩); (obtain ⟨W6, hW6⟩ : ∃ W, w6.alloc (.cells #[.int .i64 k6.1, .int .i64 k6.2.1, .int .i64 k6.2.2, .int .i64 h6] 66) = W := ⟨_, rfl⟩); (have N6 := Lib.hid (by have := H6.out.new 66 #[.int .i64 k6.1, .int .i64 k6.2.1, .int .i64 k6.2.2, .int .i64 h6]; rw [hW6, hb6] at this; exact this)); (have E6 := Lib.hid m6.L); clear r6 s6 m6 l6 o6)
  have R6 := N6.out.now.2
  have z0 := R6.cell 0
  have z1 := R6.cell 1
  have z2 := R6.cell 2
  have z3 := R6.cell 3
  have HA := Lib.hid (tall N6.out.rep C6.out.bl O6.out)
  unfold memV Tr.rootV at HA
  clear hb6 hW6 hW5 hg5 y0 y1 y2 y3 R6
  go_upto_region 6 with (go_at_call 35; (with_reducible refine HA.out.mono ?_); rintro e w7 ⟨X7, st7, A7, c7, rfl, r7, s7, k7, f7⟩; (have N7 := Lib.hid (N6.out.stp r7 s7)); (have F7 := Lib.hid f7); (have K7 := Lib.hid k7); clear r7 s7 k7 f7)
  have R7 := N7.out.now.1.2
  have u0 := R7.cell 0
  have u1 := R7.cell 1
  have u2 := R7.cell 2
  have u3 := R7.cell 3
  have HG := Lib.hid (by
    have hO : Tr.RootOk st7.L k4 h4 [Tr.w1, Tr.w2] := by
      obtain ⟨l, e, -⟩ := E6.out
      rw [K7.out.L, e]
      exact O4.out.app l
    exact tget N7.out.rep (K7.out.bl.trans C6.out.bl) hO (key := 1) (by decide))
  unfold memV Tr.rootV at HG
  rw [Tr.w_get] at HG
  clear R7 z0 z1 z2 z3
  go_upto_region 7 with (go_at_call 37; (with_reducible refine HG.out.mono ?_); rintro e w8 ⟨X8, st8, rfl, r8, s8, k8⟩; dsimp only [Tr.entV, ev, evv, Tr.w1]; (have N8 := Lib.hid (N7.out.stp r8 s8)); (have F8 := Lib.hid (F7.out.step s8)); (obtain ⟨b8, hb8⟩ : ∃ b, w8.heap.size = b := ⟨_, rfl⟩); clear r8 s8 k8)
  obtain ⟨W8, hW8⟩ : ∃ W, w8.alloc (.cells #[.int .i64 1, .int .i64 9, .int .i64 1, .int .i64 0, .int .i64 0] 84) = W := ⟨_, rfl⟩
  rw [hW8]
  have bel8 : Below w8.heap.size w8 W8 := by rw [← hW8]; exact below_alloc1 _ _
  have HB8 := Lib.hid (N8.out.below bel8).bel
  have v1 : W8.cell? ⟨b8, 1, none⟩ = some (.int .i64 9) := by rw [← hW8, ← hb8]; exact (Blk.new w8 _ _).cell 1
  obtain ⟨ga, go, hA, -, v0, -⟩ := ((F8.out.below bel8).now).ev (i := 0) (by decide)
  subst hA
  have v0 : W8.cell? ⟨ga, go, none⟩ = some (.int .i64 2) := v0
  clear hW8 hb8 bel8
  go_wp2_with fail
  go_ret
  exact ⟨rfl, HB8.out⟩
end Go.Proofs.Ytlcchefiicalpaa
