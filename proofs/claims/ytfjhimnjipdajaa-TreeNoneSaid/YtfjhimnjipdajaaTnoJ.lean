/- TreeNone, plain: an empty tree whose store fails at each load, or at each save. TreeNone. -/
import Derived.Test.YtfjhimnjipdajaaTlaJ
namespace Go.Proofs.Ytfjhimnjipdajaa
open Go.RowKit
namespace Tr
def sN (i v bl bs : Int) : MSt := ⟨[leafN []], i, v, bl, bs⟩
theorem leaf0_ok : Nd.Ok (leafN []) := (leafN_ok (l := []) (lo := 0) (hi := 512) (fun e he => by cases he) List.Pairwise.nil (by decide)).1
theorem leaf1_ok {x : E} (hx : EOk x) : Nd.Ok (leafN [x]) := (leafN_ok (l := [x]) (lo := 0) (hi := 512) (fun e he => by rw [List.mem_singleton] at he; subst he; exact ⟨hx, hx.1⟩) (List.pairwise_singleton _ _) (by show 1 ≤ 8; decide)).1
theorem saveN_yes {st : MSt} {n : Nd.N} (ho : Nd.Ok n) : saveN mem st n = mem.sv st n := by unfold saveN; rw [if_pos ho]
theorem save0 (st : MSt) (l : List E) : save mem 0 st l = saveN mem st (leafN l) := rfl
theorem up0_err {st s : MSt} {l : List E} {e : Int} (h8 : l.length ≤ 8) (h : saveN mem st (leafN l) = (s, .error e)) : plant mem 0 l st = (s, .error e) := by
  have h1 := up_save (f := 5) (h := 0) (l := l) mem st h8
  have h2 : save mem 0 st l = (s, .error e) := h
  rw [h2] at h1
  exact (plant_zero mem st).trans h1
theorem up0_ok {st s : MSt} {l : List E} {k : Nd.T3} (h8 : l.length ≤ 8) (h : saveN mem st (leafN l) = (s, .ok k)) : plant mem 0 l st = (s, .ok (k, 0)) := by
  have h1 := up_save (f := 5) (h := 0) (l := l) mem st h8
  have h2 : save mem 0 st l = (s, .ok k) := h
  rw [h2] at h1
  exact (plant_zero mem st).trans h1
theorem dec_no {p : Prop} (hp : ¬ p) (i : Decidable p) : @decide p i = false := decide_eq_false hp
theorem dec_yes {p : Prop} (hp : p) (i : Decidable p) : @decide p i = true := decide_eq_true hp
theorem ed0_err {σ : Type} {S : Sto σ} {st s : σ} {b : Br} {eds : List Ed} {e : Int} (h : load S st b = (s, .error e)) : edited S 0 st b eds = (s, .error e) := by unfold edited; rw [h]
theorem ed0_no {σ : Type} {S : Sto σ} {st s : σ} {b : Br} {eds : List Ed} {n : Nd.N} (h : load S st b = (s, .ok n)) (hm : leaf n = merged eds (leaf n)) : edited S 0 st b eds = (s, .ok (merged eds (leaf n), false)) := by
  unfold edited; rw [h]
  exact congrArg (fun c => (s, Except.ok (merged eds (leaf n), c))) (dec_no (fun h => h hm) _)
theorem ed0_yes {σ : Type} {S : Sto σ} {st s : σ} {b : Br} {eds : List Ed} {n : Nd.N} (h : load S st b = (s, .ok n)) (hm : leaf n ≠ merged eds (leaf n)) : edited S 0 st b eds = (s, .ok (merged eds (leaf n), true)) := by
  unfold edited; rw [h]
  exact congrArg (fun c => (s, Except.ok (merged eds (leaf n), c))) (dec_yes hm _)
theorem ch_err {st s : MSt} {k : Nd.T3} {eds : List Ed} {e : Int} (hne : eds ≠ []) (h : load mem st (trunk k 0) = (s, .error e)) : change mem st k 0 eds = (s, .error e) := change_err (memI 0) hne (h := 0) (ed0_err h)
theorem ch_no {st s : MSt} {k : Nd.T3} {eds : List Ed} {n : Nd.N} (hne : eds ≠ []) (h : load mem st (trunk k 0) = (s, .ok n)) (hm : leaf n = merged (inOrder eds) (leaf n)) : change mem st k 0 eds = (s, .ok (k, 0)) := change_no (memI 0) hne (h := 0) (ed0_no h hm)
theorem ch_yes {st s : MSt} {k : Nd.T3} {eds : List Ed} {n : Nd.N} (hne : eds ≠ []) (h : load mem st (trunk k 0) = (s, .ok n)) (hm : leaf n ≠ merged (inOrder eds) (leaf n)) : change mem st k 0 eds = plant mem 0 (merged (inOrder eds) (leaf n)) s := change_yes (memI 0) hne (h := 0) (ed0_yes h hm)
theorem load_fst {σ : Type} (S : Sto σ) (st : σ) (b : Br) : (load S st b).1 = (S.ld st b.k).1 := by
  unfold load
  rcases S.ld st b.k with ⟨s, e | n⟩ <;> rfl
theorem nn_empty0 : plant mem 0 [] ⟨[], 0, 0, 0, 0⟩ = (sN 0 1 0 0, .ok ((2, 1, 7), 0)) := by
  refine up0_ok (l := []) (Nat.zero_le _) ((saveN_yes leaf0_ok).trans ((mem_sv_yes (st := ⟨[], 0, 0, 0, 0⟩) (by decide)).trans ?_))
  have e : wrap64 ((0 : Int) + 1) = 1 := by simp only [wrap64]; omega
  show ((⟨[leafN []], 0, wrap64 ((0 : Int) + 1), 0, 0⟩ : MSt), Except.ok ((((0 : Nat) : Int) + 2, 1, 7) : Nd.T3)) = _
  rw [e]
  rfl
theorem nn_root : RootOk (sN 0 1 0 0).L (2, 1, 7) 0 [] := by
  have h := empty_good ⟨[], 0, 0, 0, 0⟩
  rw [nn_empty0] at h
  exact h.2
theorem nn_rootL (i v bl bs : Int) : RootOk (sN i v bl bs).L (2, 1, 7) 0 [] := nn_root
theorem nn_load_bad {i v : Int} (hi : 0 ≤ i ∧ i ≤ 10) (b : Br) : load mem (sN i v 1 0) b = (sN (i + 1) v 1 0, .error 6) := by
  have e : wrap64 (i + 1) = i + 1 := by simp only [wrap64]; omega
  unfold load
  rw [mem_ld_no (.inl ⟨by show (0 : Int) < 1; decide, by show (1 : Int) ≤ wrap64 (i + 1); omega⟩)]
  show ((⟨[leafN []], wrap64 (i + 1), v, 1, 0⟩ : MSt), Except.error 6) = _
  rw [e]
  rfl
theorem nn_load {i v bs : Int} (hi : 0 ≤ i ∧ i ≤ 10) : load mem (sN i v 0 bs) (trunk (2, 1, 7) 0) = (sN (i + 1) v 0 bs, .ok (leafN [])) := by
  have e : wrap64 (i + 1) = i + 1 := by simp only [wrap64]; omega
  obtain ⟨hn, h1, -, hg, -⟩ := nn_rootL i v 0 bs
  obtain rfl : hn = 0 := by omega
  have h := load_all mem_brings mem_able (st := sN i v 0 bs) (b := trunk (2, 1, 7) 0) (h := 0) rfl rfl hg
  rw [h, load_fst]
  show ((⟨[leafN []], wrap64 (i + 1), v, 0, bs⟩ : MSt), Except.ok (leafN [])) = _
  rw [e]
  rfl
section
variable {i v key : Int} (hi : 0 ≤ i ∧ i ≤ 10)
include hi
theorem nn_get_bad : getP mem 0 (sN i v 1 0) (trunk (2, 1, 7) 0) key = (sN (i + 1) v 1 0, .error 6) := by
  unfold getP
  rw [nn_load_bad hi]
theorem nn_get : getP mem 0 (sN i v 0 1) (trunk (2, 1, 7) 0) key = (sN (i + 1) v 0 1, .ok none) := by
  unfold getP
  rw [nn_load hi]
  rfl
theorem nn_put_bad {x : E} (hx : EOk x) : putP mem (sN i v 1 0) (2, 1, 7) 0 [x] = (sN (i + 1) v 1 0, .error 6) :=
  (putP_yes mem (fun e he => by rw [List.mem_singleton] at he; subst he; exact hx)).trans (ch_err (by unfold edPut; simp) (nn_load_bad hi _))
theorem nn_cut_bad (hk : 0 ≤ key ∧ key < 512) : cutP mem (sN i v 1 0) (2, 1, 7) 0 [key] = (sN (i + 1) v 1 0, .error 6) :=
  (cutP_yes mem (fun e he => by rw [List.mem_singleton] at he; subst he; exact hk)).trans (ch_err (by unfold edCut; simp) (nn_load_bad hi _))
theorem nn_cut (hk : 0 ≤ key ∧ key < 512) : cutP mem (sN i v 0 1) (2, 1, 7) 0 [key] = (sN (i + 1) v 0 1, .ok ((2, 1, 7), 0)) :=
  (cutP_yes mem (fun e he => by rw [List.mem_singleton] at he; subst he; exact hk)).trans (ch_no (by unfold edCut; simp) (nn_load hi) rfl)
theorem nn_put {x : E} (hx : EOk x) (hv : 0 ≤ v ∧ v ≤ 10) : putP mem (sN i v 0 1) (2, 1, 7) 0 [x] = (sN (i + 1) (v + 1) 0 1, .error 7) := by
  have e1 : wrap64 (v + 1) = v + 1 := by simp only [wrap64]; omega
  have e : merged (inOrder (edPut [x])) (leaf (leafN [])) = [x] := rfl
  have h := ch_yes (k := (2, 1, 7)) (eds := edPut [x]) (by unfold edPut; simp) (nn_load (v := v) (bs := 1) hi) (by rw [e]; show ([] : List E) ≠ [x]; simp)
  rw [e] at h
  refine (putP_yes mem (fun e he => by rw [List.mem_singleton] at he; subst he; exact hx)).trans (h.trans (up0_err (l := [x]) (by show 1 ≤ 8; decide) ((saveN_yes (leaf1_ok hx)).trans ((mem_sv_no (.inl ⟨by show (0 : Int) < 1; decide, by show (1 : Int) ≤ wrap64 (v + 1); omega⟩)).trans ?_))))
  show ((⟨[leafN []], i + 1, wrap64 (v + 1), 0, 1⟩ : MSt), Except.error 7) = _
  rw [e1]
  rfl
theorem nn_all_bad : walk mem allG 0 (sN i v 1 0) (trunk (2, 1, 7) 0) = (sN (i + 1) v 1 0, .error 6) := by
  unfold walk
  rw [nn_load_bad hi]
theorem nn_all : walk mem allG 0 (sN i v 0 1) (trunk (2, 1, 7) 0) = (sN (i + 1) v 0 1, .ok []) := by
  unfold walk
  rw [nn_load hi]
  rfl
theorem nn_empty {j : Int} : (plant mem 0 [] (sN j i 1 0)).2 = .ok ((3, 1, 7), 0) := by
  have hh := hi
  exact congrArg Prod.snd (up0_ok (l := []) (st := sN j i 1 0) (Nat.zero_le _) ((saveN_yes leaf0_ok).trans (mem_sv_yes (fun h => by
    rcases h with ⟨h, -⟩ | h
    · exact absurd (show (0 : Int) < 0 from h) (by decide)
    · exact absurd (show 8000 < 1 from h) (by decide)))))
theorem nn_empty_bad {j : Int} : (plant mem 0 [] (sN j i 0 1)).2 = .error 7 := by
  have e1 : wrap64 (i + 1) = i + 1 := by simp only [wrap64]; omega
  exact congrArg Prod.snd (up0_err (l := []) (st := sN j i 0 1) (Nat.zero_le _) ((saveN_yes leaf0_ok).trans (mem_sv_no (.inl ⟨by show (0 : Int) < 1; decide, by show (1 : Int) ≤ wrap64 (i + 1); omega⟩))))
end
theorem nn_eok {key : Int} (hk : 0 ≤ key ∧ key < 512) : EOk ⟨key, (9, 1, 0), 1⟩ := ⟨hk, (show Nd.PlaceOk (9, 1, 0) 1 by unfold Nd.PlaceOk Nd.RunOk Nd.GenOk; decide)⟩
end Tr
end Go.Proofs.Ytfjhimnjipdajaa

namespace Go.Proofs.Ytfjhimnjipdajaa
open Go.RowKit

theorem MRep.bad3 {p : Nat} {w : World} {X : Nat → Prop} {st : Tr.MSt} (h : MRep p w X st) (x : Int) : MRep p (w.setCell ⟨p, 3, none⟩ (.int .i64 x)) X { st with bl := x } ∧ Stp w X (w.setCell ⟨p, 3, none⟩ (.int .i64 x)) X ∧ w.frozen? ⟨p, 3, none⟩ = false ∧ w.cell? ⟨p, 3, none⟩ = some (.int .i64 st.bl) := by
  obtain ⟨A, c, vs, h⟩ := h
  have hk : ∀ b, b ≠ p → (w.setCell ⟨p, 3, none⟩ (.int .i64 x)).heap[b]? = w.heap[b]? := fun b hb => Below.heap_setCell _ _ _ _ hb
  have hs : (w.setCell ⟨p, 3, none⟩ (.int .i64 x)).heap.size = w.heap.size := by simp [World.setCell]
  refine ⟨⟨A, c, vs, ⟨h.blk.set_ 3 _, own_keep h.row fun b hb _ => hk b (h.hr b hb).2, h.hp, h.hr, h.len, h.five, fun i v n hv hn => ?_, fun b hb => by rw [hs]; exact h.lt b hb, h.few⟩⟩, ⟨chg_p h.hp 3 _, fun b hb => .inl hb⟩, h.blk.frozen 3, h.blk.cell 3⟩
  exact ⟨(h.nod i v n hv hn).1.keep (Nat.le_of_eq hs.symm) (fun _ hb _ => hb) fun b hb _ => hk b hb.2.1, (h.nod i v n hv hn).2⟩
theorem MRep.bad4 {p : Nat} {w : World} {X : Nat → Prop} {st : Tr.MSt} (h : MRep p w X st) (x : Int) : MRep p (w.setCell ⟨p, 4, none⟩ (.int .i64 x)) X { st with bs := x } ∧ Stp w X (w.setCell ⟨p, 4, none⟩ (.int .i64 x)) X ∧ w.frozen? ⟨p, 4, none⟩ = false ∧ w.cell? ⟨p, 4, none⟩ = some (.int .i64 st.bs) := by
  obtain ⟨A, c, vs, h⟩ := h
  have hk : ∀ b, b ≠ p → (w.setCell ⟨p, 4, none⟩ (.int .i64 x)).heap[b]? = w.heap[b]? := fun b hb => Below.heap_setCell _ _ _ _ hb
  have hs : (w.setCell ⟨p, 4, none⟩ (.int .i64 x)).heap.size = w.heap.size := by simp [World.setCell]
  refine ⟨⟨A, c, vs, ⟨h.blk.set_ 4 _, own_keep h.row fun b hb _ => hk b (h.hr b hb).2, h.hp, h.hr, h.len, h.five, fun i v n hv hn => ?_, fun b hb => by rw [hs]; exact h.lt b hb, h.few⟩⟩, ⟨chg_p h.hp 4 _, fun b hb => .inl hb⟩, h.blk.frozen 4, h.blk.cell 4⟩
  exact ⟨(h.nod i v n hv hn).1.keep (Nat.le_of_eq hs.symm) (fun _ hb _ => hb) fun b hb _ => hk b hb.2.1, (h.nod i v n hv hn).2⟩
/-- What the calls answer: an error's number each. -/
def NG (p : Nat) (w : World) (X : Nat → Prop) (s : Tr.MSt) (c : Int) (e : Ending) (w' : World) : Prop := ∃ X', e = .returned (.tuple #[.agg #[.int .i64 0, .int .i64 0, .int .i64 0, .int .i64 0, .int .i64 0], .bool false, .int .i64 c]) ∧ MRep p w' X' s ∧ Stp w X w' X'
def NR (p : Nat) (w : World) (X : Nat → Prop) (s : Tr.MSt) (c : Int) (e : Ending) (w' : World) : Prop := ∃ X' k h, e = .returned (.tuple #[Tr.rootV k h, .int .i64 c]) ∧ MRep p w' X' s ∧ Stp w X w' X'
def NL (p : Nat) (w : World) (X : Nat → Prop) (s : Tr.MSt) (c : Int) (e : Ending) (w' : World) : Prop := ∃ X' A n cc, e = .returned (.tuple #[.slice A n cc, .int .i64 c]) ∧ MRep p w' X' s ∧ Stp w X w' X'
section
variable {p : Nat} {w : World} {X : Nat → Prop} {s s' : Tr.MSt} {k : Nd.T3} {h c key : Int}
theorem ng_inv (hr : MRep p w X s) (hk : Tr.KR k) (h0 : ¬ (0 ≤ key ∧ key < 512)) : Calls Try.prog 37 #[memV p, Tr.rootV k h, .int .i64 key] w (NG p w X s 1) :=
  (get_any (memI p) hr hk).mono fun e w' he => by
    obtain ⟨X', a, b, -, d⟩ := he.2 h0
    exact ⟨X', d, a, b⟩
theorem ng_bad (hr : MRep p w X s) (hk : Tr.KR k) (h0 : 0 ≤ key ∧ key < 512) (e : Tr.getP Tr.mem h.toNat s (Tr.trunk k h) key = (s', .error c)) : Calls Try.prog 37 #[memV p, Tr.rootV k h, .int .i64 key] w (NG p w X s' c) :=
  (get_any (memI p) hr hk).mono fun e' w' he => by
    have he := he.1 h0
    have e : Tr.getP (memI p).S h.toNat s (Tr.trunk k h) key = (s', .error c) := e
    rw [e] at he
    obtain ⟨X', a, b, -, d⟩ := he
    exact ⟨X', d, a, b⟩
theorem ng_no (hr : MRep p w X s) (hk : Tr.KR k) (h0 : 0 ≤ key ∧ key < 512) (e : Tr.getP Tr.mem h.toNat s (Tr.trunk k h) key = (s', .ok none)) : Calls Try.prog 37 #[memV p, Tr.rootV k h, .int .i64 key] w (NG p w X s' 0) :=
  (get_any (memI p) hr hk).mono fun e' w' he => by
    have he := he.1 h0
    have e : Tr.getP (memI p).S h.toNat s (Tr.trunk k h) key = (s', .ok none) := e
    rw [e] at he
    obtain ⟨X', a, b, d⟩ := he
    exact ⟨X', d, a, b⟩
theorem nr_err {r : Tr.Res Tr.MSt (Nd.T3 × Int)} {e : Ending} {w' : World} (hR : RtR (memI p) w X r.1 r.2 e w') (hr : r = (s', .error c)) : NR p w X s' c e w' := by
  rw [hr] at hR
  obtain ⟨X', a, b, -, k, h, d⟩ := hR
  exact ⟨X', k, h, d, a, b⟩
theorem nr_ok {r : Tr.Res Tr.MSt (Nd.T3 × Int)} {e : Ending} {w' : World} (hR : RtR (memI p) w X r.1 r.2 e w') (hr : r = (s', .ok (k, h))) : NR p w X s' 0 e w' := by
  rw [hr] at hR
  obtain ⟨X', a, b, d⟩ := hR
  exact ⟨X', k, h, d, a, b⟩
theorem nr_ok2 {r : Tr.Res Tr.MSt (Nd.T3 × Int)} {e : Ending} {w' : World} (hR : RtR (memI p) w X r.1 r.2 e w') (hr : r.2 = .ok (k, h)) : NR p w X r.1 0 e w' := by
  rw [hr] at hR
  obtain ⟨X', a, b, d⟩ := hR
  exact ⟨X', k, h, d, a, b⟩
theorem nr_err2 {r : Tr.Res Tr.MSt (Nd.T3 × Int)} {e : Ending} {w' : World} (hR : RtR (memI p) w X r.1 r.2 e w') (hr : r.2 = .error c) : NR p w X r.1 c e w' := by
  rw [hr] at hR
  obtain ⟨X', a, b, -, k, h, d⟩ := hR
  exact ⟨X', k, h, d, a, b⟩
theorem nl_err (hr : MRep p w X s) (hk : Tr.KR k) (e : Tr.walk Tr.mem Tr.allG h.toNat s (Tr.trunk k h) = (s', .error c)) : Calls Try.prog 35 #[memV p, Tr.rootV k h] w (NL p w X s' c) :=
  (all_any (memI p) hr hk).mono fun e' w' he => by
    have e : Tr.walk (memI p).S Tr.allG h.toNat s (Tr.trunk k h) = (s', .error c) := e
    rw [e] at he
    obtain ⟨X', a, b, -, d⟩ := he
    exact ⟨X', _, _, _, d, a, b⟩
theorem nl_ok {q : List Tr.E} (hr : MRep p w X s) (hk : Tr.KR k) (e : Tr.walk Tr.mem Tr.allG h.toNat s (Tr.trunk k h) = (s', .ok q)) : Calls Try.prog 35 #[memV p, Tr.rootV k h] w (NL p w X s' 0) :=
  (all_any (memI p) hr hk).mono fun e' w' he => by
    have e : Tr.walk (memI p).S Tr.allG h.toNat s (Tr.trunk k h) = (s', .ok q) := e
    rw [e] at he
    obtain ⟨X', a, b, A, cc, d, -⟩ := he
    exact ⟨X', _, _, _, d, a, b⟩
end
theorem kr217 : Tr.KR (2, 1, 7) := by unfold Tr.KR; decide
theorem tn_empty0 {p : Nat} {w : World} {X : Nat → Prop} (hr : MRep p w X ⟨[], 0, 0, 0, 0⟩) : Calls Try.prog 32 #[memV p] w fun e w' => ∃ X', e = .returned (.tuple #[Tr.rootV (2, 1, 7) 0, .int .i64 0]) ∧ MRep p w' X' (Tr.sN 0 1 0 0) ∧ Stp w X w' X' :=
  (empty_any (memI p) hr).mono fun e' w' he => by
    have e : Tr.plant (memI p).S 0 [] ⟨[], 0, 0, 0, 0⟩ = (Tr.sN 0 1 0 0, .ok ((2, 1, 7), 0)) := Tr.nn_empty0
    rw [e] at he
    obtain ⟨X', a, b, d⟩ := he
    exact ⟨X', d, a, b⟩
set_option maxRecDepth 8000 in
set_option maxHeartbeats 16000000 in
theorem tnone_iL (key : Int) (hk : ¬ (0 ≤ key ∧ key < 512)) (w : World) : Calls Try.prog 16 #[.int .i64 key, .bool true] w fun e w' => e = .returned (.bool true) ∧ Below w.heap.size w w' := by
  have HAw := Lib.hid (tawake_any w)
  have Hk := Lib.hid hk
  have HG := Lib.hid (fun (p : Nat) (V : World) (X : Nat → Prop) (hr : MRep p V X (Tr.sN 0 1 1 0)) => show Calls Try.prog 37 #[.iface 61 (.pointer (some ⟨p, 0, none⟩)), .agg #[.int .i64 2, .int .i64 1, .int .i64 7, .int .i64 0], .int .i64 key] V (NG p V X (Tr.sN 0 1 1 0) 1) from ng_inv (k := (2, 1, 7)) (h := 0) hr kr217 hk)
  have HP := Lib.hid (fun (p : Nat) (V : World) (X : Nat → Prop) (A : Option Addr) (hr : MRep p V X (Tr.sN 0 1 1 0)) (hs : SlC V V.heap.size A 1 1 (evs [⟨key, (9, 1, 0), 1⟩])) => show Calls Try.prog 39 #[.iface 61 (.pointer (some ⟨p, 0, none⟩)), .agg #[.int .i64 2, .int .i64 1, .int .i64 7, .int .i64 0], .slice A 1 1] V (NR p V X (Tr.sN 0 1 1 0) 1) from (put_any (memI p) inorder_any hr hs rfl (by decide) kr217 (fun h => absurd (h _ (List.mem_singleton.2 rfl)).1 hk)).mono fun e w' he => nr_err he (Tr.putP_no Tr.mem (fun h => hk (h _ (List.mem_singleton.2 rfl)).1)))
  have HC := Lib.hid (fun (p : Nat) (V : World) (X : Nat → Prop) (A : Option Addr) (hr : MRep p V X (Tr.sN 0 1 1 0)) (hs : SlC V V.heap.size A 1 1 (ivs [key])) => show Calls Try.prog 40 #[.iface 61 (.pointer (some ⟨p, 0, none⟩)), .agg #[.int .i64 2, .int .i64 1, .int .i64 7, .int .i64 0], .slice A 1 1] V (NR p V X (Tr.sN 0 1 1 0) 1) from (cut_any (memI p) inorder_any hr hs rfl (by decide) kr217 (fun h => absurd (h _ (List.mem_singleton.2 rfl)) hk)).mono fun e w' he => nr_err he (Tr.cutP_no Tr.mem (fun h => hk (h _ (List.mem_singleton.2 rfl)))))
  obtain ⟨B, hB⟩ : ∃ B, w.heap.size = B := ⟨_, rfl⟩
  rw [hB]
  go_enter Try.func16, Try.ntmps16
  go_upto_region 4 with (go_at_call 30; (with_reducible refine HAw.out.mono ?_); rintro e wa ⟨rfl, ba⟩; (have BA := Lib.hid ba); clear ba)
  obtain ⟨p, hp⟩ : ∃ p, wa.heap.size = p := ⟨_, rfl⟩
  obtain ⟨W1, hW1⟩ : ∃ W, wa.alloc (.cells #[.slice none 0 0, .int .i64 0, .int .i64 0, .int .i64 0, .int .i64 0] 64) = W := ⟨_, rfl⟩
  rw [hW1, hp]
  have N1 := Lib.hid (show LW B w p W1 (fun b => b = p) ⟨[], 0, 0, 0, 0⟩ fun _ => True from by
    have := BA.out.size
    subst hp
    rw [← hW1, ← hB]
    exact ⟨mrep_new wa, BA.out.trans ((below_alloc1 wa _).mono this), fun b hb => by have hb : b = wa.heap.size := hb; omega, by simp; omega, fun _ _ => trivial⟩)
  have H0 := Lib.hid (tn_empty0 N1.out.rep)
  unfold memV Tr.rootV at H0
  clear hW1 hp hB
  go_upto_region 5 with (go_at_call 32; (with_reducible refine H0.out.mono ?_); rintro e w2 ⟨X2, rfl, r2, s2⟩; dsimp only; (have N2 := Lib.hid (N1.out.stp r2 s2)); clear r2 s2)
  obtain ⟨b2, hb2⟩ : ∃ b, w2.heap.size = b := ⟨_, rfl⟩
  obtain ⟨W2, hW2⟩ : ∃ W, w2.alloc (.cells #[.int .i64 2, .int .i64 1, .int .i64 7, .int .i64 0] 66) = W := ⟨_, rfl⟩
  rw [hW2, hb2]
  have N3 := Lib.hid (by have := N2.out.new 66 #[.int .i64 2, .int .i64 1, .int .i64 7, .int .i64 0]; rw [hW2, hb2] at this; exact this)
  obtain ⟨d1, d2, d3, d4⟩ := N3.out.rep.bad3 1
  obtain ⟨W3, hW3⟩ : ∃ W, W2.setCell ⟨p, 3, none⟩ (.int .i64 1) = W := ⟨_, rfl⟩
  rw [hW3] at d1 d2
  have N4 := Lib.hid (N3.out.stp d1 d2)
  clear hb2 hW2 d1 d2
  go_upto_region 10 with fail
  have R4 := N4.out.now.2
  have x0 := R4.cell 0
  have x1 := R4.cell 1
  have x2 := R4.cell 2
  have x3 := R4.cell 3
  clear hW3 d3 d4 R4
  go_upto_region 11 with (go_at_call 37; (with_reducible refine (HG.out p W3 _ N4.out.rep).mono ?_); rintro e w5 ⟨X5, rfl, r5, s5⟩; (have N5 := Lib.hid (N4.out.stp r5 s5)); clear r5 s5)
  obtain ⟨W5, hW5⟩ : ∃ W, w5.alloc (.cells #[.int .i64 0, .int .i64 0, .int .i64 0, .int .i64 0, .int .i64 0] 84) = W := ⟨_, rfl⟩
  rw [hW5]
  have N6 := Lib.hid (N5.out.below (hW5 ▸ below_alloc1 w5 _))
  have R6 := N6.out.now.2
  have y0 := R6.cell 0
  have y1 := R6.cell 1
  have y2 := R6.cell 2
  have y3 := R6.cell 3
  obtain ⟨g6, hg6⟩ : ∃ g, W5.heap.size = g := ⟨_, rfl⟩
  obtain ⟨W6, hW6⟩ : ∃ W, W5.alloc (.cells #[.int .i64 key, .int .i64 9, .int .i64 1, .int .i64 0, .int .i64 1] 84) = W := ⟨_, rfl⟩
  have N7 := Lib.hid (N6.out.below (hW6 ▸ below_alloc1 W5 _))
  have S6 := Lib.hid (by
    have hs := slc_new (w := W5) (t := 84) #[.int .i64 key, .int .i64 9, .int .i64 1, .int .i64 0, .int .i64 1] 1
    rw [hW6, hg6] at hs
    exact HP.out p W6 _ _ N7.out.rep hs)
  clear hW5 x0 x1 x2 x3 R6
  go_upto_region 12 with (go_at_call 39; (with_reducible refine S6.out.mono ?_); rintro e w7 ⟨X7, k7, h7, rfl, r7, s7⟩; unfold Tr.rootV; (have N8 := Lib.hid (N7.out.stp r7 s7)); clear r7 s7; (obtain ⟨W7, hW7⟩ : ∃ W, w7.alloc (.cells #[.int .i64 k7.1, .int .i64 k7.2.1, .int .i64 k7.2.2, .int .i64 h7] 66) = W := ⟨_, rfl⟩); (have N9 := Lib.hid (N8.out.below (hW7 ▸ below_alloc1 w7 _))))
  have R9 := N9.out.now.2
  have z0 := R9.cell 0
  have z1 := R9.cell 1
  have z2 := R9.cell 2
  have z3 := R9.cell 3
  obtain ⟨g8, hg8⟩ : ∃ g, W7.heap.size = g := ⟨_, rfl⟩
  obtain ⟨W8, hW8⟩ : ∃ W, W7.alloc (.cells #[.int .i64 key] 3) = W := ⟨_, rfl⟩
  have N10 := Lib.hid (N9.out.below (hW8 ▸ below_alloc1 W7 _))
  have S8 := Lib.hid (by
    have hs := slc_new (w := W7) (t := 3) #[.int .i64 key] 1
    rw [hW8, hg8] at hs
    exact HC.out p W8 _ _ N10.out.rep hs)
  clear hW7 y0 y1 y2 y3 hW6 hg6 R9
  go_upto_region 13 with (go_at_call 40; (with_reducible refine S8.out.mono ?_); rintro e w10 ⟨X10, k10, h10, rfl, r10, s10⟩; unfold Tr.rootV; (have N11 := Lib.hid (N10.out.stp r10 s10)); clear r10 s10; (obtain ⟨W10, hW10⟩ : ∃ W, w10.alloc (.cells #[.int .i64 k10.1, .int .i64 k10.2.1, .int .i64 k10.2.2, .int .i64 h10] 66) = W := ⟨_, rfl⟩); (have N12 := Lib.hid (N11.out.below (hW10 ▸ below_alloc1 w10 _))))
  clear hW10 z0 z1 z2 z3 hW8 hg8
  by_cases h0 : key < 0
  · have d1 : decide (key < 0) = true := decide_eq_true h0
    go_wp2_with fail
    go_ret
    exact ⟨rfl, N12.out.bel⟩
  · have d1 : decide (key < 0) = false := decide_eq_false h0
    have d2 : decide (512 ≤ key) = true := decide_eq_true (by have := Hk.out; omega)
    go_wp2_with fail
    go_ret
    exact ⟨rfl, N12.out.bel⟩
set_option maxRecDepth 8000 in
set_option maxHeartbeats 16000000 in
theorem tnone_iS (key : Int) (hk : ¬ (0 ≤ key ∧ key < 512)) (w : World) : Calls Try.prog 16 #[.int .i64 key, .bool false] w fun e w' => e = .returned (.bool true) ∧ Below w.heap.size w w' := by
  have HAw := Lib.hid (tawake_any w)
  have Hk := Lib.hid hk
  have HG := Lib.hid (fun (p : Nat) (V : World) (X : Nat → Prop) (hr : MRep p V X (Tr.sN 0 1 0 1)) => show Calls Try.prog 37 #[.iface 61 (.pointer (some ⟨p, 0, none⟩)), .agg #[.int .i64 2, .int .i64 1, .int .i64 7, .int .i64 0], .int .i64 key] V (NG p V X (Tr.sN 0 1 0 1) 1) from ng_inv (k := (2, 1, 7)) (h := 0) hr kr217 hk)
  have HP := Lib.hid (fun (p : Nat) (V : World) (X : Nat → Prop) (A : Option Addr) (hr : MRep p V X (Tr.sN 0 1 0 1)) (hs : SlC V V.heap.size A 1 1 (evs [⟨key, (9, 1, 0), 1⟩])) => show Calls Try.prog 39 #[.iface 61 (.pointer (some ⟨p, 0, none⟩)), .agg #[.int .i64 2, .int .i64 1, .int .i64 7, .int .i64 0], .slice A 1 1] V (NR p V X (Tr.sN 0 1 0 1) 1) from (put_any (memI p) inorder_any hr hs rfl (by decide) kr217 (fun h => absurd (h _ (List.mem_singleton.2 rfl)).1 hk)).mono fun e w' he => nr_err he (Tr.putP_no Tr.mem (fun h => hk (h _ (List.mem_singleton.2 rfl)).1)))
  have HC := Lib.hid (fun (p : Nat) (V : World) (X : Nat → Prop) (A : Option Addr) (hr : MRep p V X (Tr.sN 0 1 0 1)) (hs : SlC V V.heap.size A 1 1 (ivs [key])) => show Calls Try.prog 40 #[.iface 61 (.pointer (some ⟨p, 0, none⟩)), .agg #[.int .i64 2, .int .i64 1, .int .i64 7, .int .i64 0], .slice A 1 1] V (NR p V X (Tr.sN 0 1 0 1) 1) from (cut_any (memI p) inorder_any hr hs rfl (by decide) kr217 (fun h => absurd (h _ (List.mem_singleton.2 rfl)) hk)).mono fun e w' he => nr_err he (Tr.cutP_no Tr.mem (fun h => hk (h _ (List.mem_singleton.2 rfl)))))
  obtain ⟨B, hB⟩ : ∃ B, w.heap.size = B := ⟨_, rfl⟩
  rw [hB]
  go_enter Try.func16, Try.ntmps16
  go_upto_region 4 with (go_at_call 30; (with_reducible refine HAw.out.mono ?_); rintro e wa ⟨rfl, ba⟩; (have BA := Lib.hid ba); clear ba)
  obtain ⟨p, hp⟩ : ∃ p, wa.heap.size = p := ⟨_, rfl⟩
  obtain ⟨W1, hW1⟩ : ∃ W, wa.alloc (.cells #[.slice none 0 0, .int .i64 0, .int .i64 0, .int .i64 0, .int .i64 0] 64) = W := ⟨_, rfl⟩
  rw [hW1, hp]
  have N1 := Lib.hid (show LW B w p W1 (fun b => b = p) ⟨[], 0, 0, 0, 0⟩ fun _ => True from by
    have := BA.out.size
    subst hp
    rw [← hW1, ← hB]
    exact ⟨mrep_new wa, BA.out.trans ((below_alloc1 wa _).mono this), fun b hb => by have hb : b = wa.heap.size := hb; omega, by simp; omega, fun _ _ => trivial⟩)
  have H0 := Lib.hid (tn_empty0 N1.out.rep)
  unfold memV Tr.rootV at H0
  clear hW1 hp hB
  go_upto_region 5 with (go_at_call 32; (with_reducible refine H0.out.mono ?_); rintro e w2 ⟨X2, rfl, r2, s2⟩; dsimp only; (have N2 := Lib.hid (N1.out.stp r2 s2)); clear r2 s2)
  obtain ⟨b2, hb2⟩ : ∃ b, w2.heap.size = b := ⟨_, rfl⟩
  obtain ⟨W2, hW2⟩ : ∃ W, w2.alloc (.cells #[.int .i64 2, .int .i64 1, .int .i64 7, .int .i64 0] 66) = W := ⟨_, rfl⟩
  rw [hW2, hb2]
  have N3 := Lib.hid (by have := N2.out.new 66 #[.int .i64 2, .int .i64 1, .int .i64 7, .int .i64 0]; rw [hW2, hb2] at this; exact this)
  obtain ⟨d1, d2, d3, d4⟩ := N3.out.rep.bad4 1
  obtain ⟨W3, hW3⟩ : ∃ W, W2.setCell ⟨p, 4, none⟩ (.int .i64 1) = W := ⟨_, rfl⟩
  rw [hW3] at d1 d2
  have N4 := Lib.hid (N3.out.stp d1 d2)
  clear hb2 hW2 d1 d2
  go_upto_region 10 with fail
  have R4 := N4.out.now.2
  have x0 := R4.cell 0
  have x1 := R4.cell 1
  have x2 := R4.cell 2
  have x3 := R4.cell 3
  clear hW3 d3 d4 R4
  go_upto_region 11 with (go_at_call 37; (with_reducible refine (HG.out p W3 _ N4.out.rep).mono ?_); rintro e w5 ⟨X5, rfl, r5, s5⟩; (have N5 := Lib.hid (N4.out.stp r5 s5)); clear r5 s5)
  obtain ⟨W5, hW5⟩ : ∃ W, w5.alloc (.cells #[.int .i64 0, .int .i64 0, .int .i64 0, .int .i64 0, .int .i64 0] 84) = W := ⟨_, rfl⟩
  rw [hW5]
  have N6 := Lib.hid (N5.out.below (hW5 ▸ below_alloc1 w5 _))
  have R6 := N6.out.now.2
  have y0 := R6.cell 0
  have y1 := R6.cell 1
  have y2 := R6.cell 2
  have y3 := R6.cell 3
  obtain ⟨g6, hg6⟩ : ∃ g, W5.heap.size = g := ⟨_, rfl⟩
  obtain ⟨W6, hW6⟩ : ∃ W, W5.alloc (.cells #[.int .i64 key, .int .i64 9, .int .i64 1, .int .i64 0, .int .i64 1] 84) = W := ⟨_, rfl⟩
  have N7 := Lib.hid (N6.out.below (hW6 ▸ below_alloc1 W5 _))
  have S6 := Lib.hid (by
    have hs := slc_new (w := W5) (t := 84) #[.int .i64 key, .int .i64 9, .int .i64 1, .int .i64 0, .int .i64 1] 1
    rw [hW6, hg6] at hs
    exact HP.out p W6 _ _ N7.out.rep hs)
  clear hW5 x0 x1 x2 x3 R6
  go_upto_region 12 with (go_at_call 39; (with_reducible refine S6.out.mono ?_); rintro e w7 ⟨X7, k7, h7, rfl, r7, s7⟩; unfold Tr.rootV; (have N8 := Lib.hid (N7.out.stp r7 s7)); clear r7 s7; (obtain ⟨W7, hW7⟩ : ∃ W, w7.alloc (.cells #[.int .i64 k7.1, .int .i64 k7.2.1, .int .i64 k7.2.2, .int .i64 h7] 66) = W := ⟨_, rfl⟩); (have N9 := Lib.hid (N8.out.below (hW7 ▸ below_alloc1 w7 _))))
  have R9 := N9.out.now.2
  have z0 := R9.cell 0
  have z1 := R9.cell 1
  have z2 := R9.cell 2
  have z3 := R9.cell 3
  obtain ⟨g8, hg8⟩ : ∃ g, W7.heap.size = g := ⟨_, rfl⟩
  obtain ⟨W8, hW8⟩ : ∃ W, W7.alloc (.cells #[.int .i64 key] 3) = W := ⟨_, rfl⟩
  have N10 := Lib.hid (N9.out.below (hW8 ▸ below_alloc1 W7 _))
  have S8 := Lib.hid (by
    have hs := slc_new (w := W7) (t := 3) #[.int .i64 key] 1
    rw [hW8, hg8] at hs
    exact HC.out p W8 _ _ N10.out.rep hs)
  clear hW7 y0 y1 y2 y3 hW6 hg6 R9
  go_upto_region 13 with (go_at_call 40; (with_reducible refine S8.out.mono ?_); rintro e w10 ⟨X10, k10, h10, rfl, r10, s10⟩; unfold Tr.rootV; (have N11 := Lib.hid (N10.out.stp r10 s10)); clear r10 s10; (obtain ⟨W10, hW10⟩ : ∃ W, w10.alloc (.cells #[.int .i64 k10.1, .int .i64 k10.2.1, .int .i64 k10.2.2, .int .i64 h10] 66) = W := ⟨_, rfl⟩); (have N12 := Lib.hid (N11.out.below (hW10 ▸ below_alloc1 w10 _))))
  clear hW10 z0 z1 z2 z3 hW8 hg8
  by_cases h0 : key < 0
  · have d1 : decide (key < 0) = true := decide_eq_true h0
    go_wp2_with fail
    go_ret
    exact ⟨rfl, N12.out.bel⟩
  · have d1 : decide (key < 0) = false := decide_eq_false h0
    have d2 : decide (512 ≤ key) = true := decide_eq_true (by have := Hk.out; omega)
    go_wp2_with fail
    go_ret
    exact ⟨rfl, N12.out.bel⟩
set_option maxRecDepth 8000 in
set_option maxHeartbeats 16000000 in
theorem tnone_vL (key : Int) (hk : 0 ≤ key ∧ key < 512) (w : World) : Calls Try.prog 16 #[.int .i64 key, .bool true] w fun e w' => e = .returned (.bool true) ∧ Below w.heap.size w w' := by
  have HAw := Lib.hid (tawake_any w)
  have Hk := Lib.hid hk
  have HG := Lib.hid (fun (p : Nat) (V : World) (X : Nat → Prop) (hr : MRep p V X (Tr.sN 0 1 1 0)) => show Calls Try.prog 37 #[.iface 61 (.pointer (some ⟨p, 0, none⟩)), .agg #[.int .i64 2, .int .i64 1, .int .i64 7, .int .i64 0], .int .i64 key] V (NG p V X (Tr.sN (0 + 1) 1 1 0) 6) from ng_bad (k := (2, 1, 7)) (h := 0) hr kr217 hk (Tr.nn_get_bad (i := 0) (v := 1) (by decide)))
  have HP := Lib.hid (fun (p : Nat) (V : World) (X : Nat → Prop) (A : Option Addr) (hr : MRep p V X (Tr.sN (0 + 1) 1 1 0)) (hs : SlC V V.heap.size A 1 1 (evs [⟨key, (9, 1, 0), 1⟩])) => show Calls Try.prog 39 #[.iface 61 (.pointer (some ⟨p, 0, none⟩)), .agg #[.int .i64 2, .int .i64 1, .int .i64 7, .int .i64 0], .slice A 1 1] V (NR p V X (Tr.sN (0 + 1 + 1) 1 1 0) 6) from (put_any (memI p) inorder_any hr hs rfl (by decide) kr217 (fun h => Tr.root_plok (st := Tr.sN (0 + 1) 1 1 0) (Tr.nn_rootL _ _ _ _) (Tr.edk_put h))).mono fun e w' he => nr_err he (Tr.nn_put_bad (i := 0 + 1) (v := 1) (by decide) (Tr.nn_eok hk)))
  have HC := Lib.hid (fun (p : Nat) (V : World) (X : Nat → Prop) (A : Option Addr) (hr : MRep p V X (Tr.sN (0 + 1 + 1) 1 1 0)) (hs : SlC V V.heap.size A 1 1 (ivs [key])) => show Calls Try.prog 40 #[.iface 61 (.pointer (some ⟨p, 0, none⟩)), .agg #[.int .i64 2, .int .i64 1, .int .i64 7, .int .i64 0], .slice A 1 1] V (NR p V X (Tr.sN (0 + 1 + 1 + 1) 1 1 0) 6) from (cut_any (memI p) inorder_any hr hs rfl (by decide) kr217 (fun h => Tr.root_plok (st := Tr.sN (0 + 1 + 1) 1 1 0) (Tr.nn_rootL _ _ _ _) (Tr.edk_cut h))).mono fun e w' he => nr_err he (Tr.nn_cut_bad (i := 0 + 1 + 1) (v := 1) (by decide) hk))
  have HL := Lib.hid (fun (p : Nat) (V : World) (X : Nat → Prop) (hr : MRep p V X (Tr.sN (0 + 1 + 1 + 1) 1 1 0)) => show Calls Try.prog 35 #[.iface 61 (.pointer (some ⟨p, 0, none⟩)), .agg #[.int .i64 2, .int .i64 1, .int .i64 7, .int .i64 0]] V (NL p V X (Tr.sN (0 + 1 + 1 + 1 + 1) 1 1 0) 6) from nl_err (k := (2, 1, 7)) (h := 0) hr kr217 (Tr.nn_all_bad (i := 0 + 1 + 1 + 1) (v := 1) (by decide)))
  have HE := Lib.hid (fun (p : Nat) (V : World) (X : Nat → Prop) (hr : MRep p V X (Tr.sN (0 + 1 + 1 + 1 + 1) 1 1 0)) => show Calls Try.prog 32 #[.iface 61 (.pointer (some ⟨p, 0, none⟩))] V (NR p V X (Tr.plant Tr.mem 0 [] (Tr.sN (0 + 1 + 1 + 1 + 1) 1 1 0)).1 0) from (empty_any (memI p) hr).mono fun e w' he => nr_ok2 he (Tr.nn_empty (i := 1) (j := 0 + 1 + 1 + 1 + 1) (by decide)))
  obtain ⟨B, hB⟩ : ∃ B, w.heap.size = B := ⟨_, rfl⟩
  rw [hB]
  go_enter Try.func16, Try.ntmps16
  go_upto_region 4 with (go_at_call 30; (with_reducible refine HAw.out.mono ?_); rintro e wa ⟨rfl, ba⟩; (have BA := Lib.hid ba); clear ba)
  obtain ⟨p, hp⟩ : ∃ p, wa.heap.size = p := ⟨_, rfl⟩
  obtain ⟨W1, hW1⟩ : ∃ W, wa.alloc (.cells #[.slice none 0 0, .int .i64 0, .int .i64 0, .int .i64 0, .int .i64 0] 64) = W := ⟨_, rfl⟩
  rw [hW1, hp]
  have N1 := Lib.hid (show LW B w p W1 (fun b => b = p) ⟨[], 0, 0, 0, 0⟩ fun _ => True from by
    have := BA.out.size
    subst hp
    rw [← hW1, ← hB]
    exact ⟨mrep_new wa, BA.out.trans ((below_alloc1 wa _).mono this), fun b hb => by have hb : b = wa.heap.size := hb; omega, by simp; omega, fun _ _ => trivial⟩)
  have H0 := Lib.hid (tn_empty0 N1.out.rep)
  unfold memV Tr.rootV at H0
  clear hW1 hp hB
  go_upto_region 5 with (go_at_call 32; (with_reducible refine H0.out.mono ?_); rintro e w2 ⟨X2, rfl, r2, s2⟩; dsimp only; (have N2 := Lib.hid (N1.out.stp r2 s2)); clear r2 s2)
  obtain ⟨b2, hb2⟩ : ∃ b, w2.heap.size = b := ⟨_, rfl⟩
  obtain ⟨W2, hW2⟩ : ∃ W, w2.alloc (.cells #[.int .i64 2, .int .i64 1, .int .i64 7, .int .i64 0] 66) = W := ⟨_, rfl⟩
  rw [hW2, hb2]
  have N3 := Lib.hid (by have := N2.out.new 66 #[.int .i64 2, .int .i64 1, .int .i64 7, .int .i64 0]; rw [hW2, hb2] at this; exact this)
  obtain ⟨d1, d2, d3, d4⟩ := N3.out.rep.bad3 1
  obtain ⟨W3, hW3⟩ : ∃ W, W2.setCell ⟨p, 3, none⟩ (.int .i64 1) = W := ⟨_, rfl⟩
  rw [hW3] at d1 d2
  have N4 := Lib.hid (N3.out.stp d1 d2)
  clear hb2 hW2 d1 d2
  go_upto_region 10 with fail
  have R4 := N4.out.now.2
  have x0 := R4.cell 0
  have x1 := R4.cell 1
  have x2 := R4.cell 2
  have x3 := R4.cell 3
  clear hW3 d3 d4 R4
  go_upto_region 11 with (go_at_call 37; (with_reducible refine (HG.out p W3 _ N4.out.rep).mono ?_); rintro e w5 ⟨X5, rfl, r5, s5⟩; (have N5 := Lib.hid (N4.out.stp r5 s5)); clear r5 s5)
  obtain ⟨W5, hW5⟩ : ∃ W, w5.alloc (.cells #[.int .i64 0, .int .i64 0, .int .i64 0, .int .i64 0, .int .i64 0] 84) = W := ⟨_, rfl⟩
  rw [hW5]
  have N6 := Lib.hid (N5.out.below (hW5 ▸ below_alloc1 w5 _))
  have R6 := N6.out.now.2
  have y0 := R6.cell 0
  have y1 := R6.cell 1
  have y2 := R6.cell 2
  have y3 := R6.cell 3
  obtain ⟨g6, hg6⟩ : ∃ g, W5.heap.size = g := ⟨_, rfl⟩
  obtain ⟨W6, hW6⟩ : ∃ W, W5.alloc (.cells #[.int .i64 key, .int .i64 9, .int .i64 1, .int .i64 0, .int .i64 1] 84) = W := ⟨_, rfl⟩
  have N7 := Lib.hid (N6.out.below (hW6 ▸ below_alloc1 W5 _))
  have S6 := Lib.hid (by
    have hs := slc_new (w := W5) (t := 84) #[.int .i64 key, .int .i64 9, .int .i64 1, .int .i64 0, .int .i64 1] 1
    rw [hW6, hg6] at hs
    exact HP.out p W6 _ _ N7.out.rep hs)
  clear hW5 x0 x1 x2 x3 R6
  go_upto_region 12 with (go_at_call 39; (with_reducible refine S6.out.mono ?_); rintro e w7 ⟨X7, k7, h7, rfl, r7, s7⟩; unfold Tr.rootV; (have N8 := Lib.hid (N7.out.stp r7 s7)); clear r7 s7; (obtain ⟨W7, hW7⟩ : ∃ W, w7.alloc (.cells #[.int .i64 k7.1, .int .i64 k7.2.1, .int .i64 k7.2.2, .int .i64 h7] 66) = W := ⟨_, rfl⟩); (have N9 := Lib.hid (N8.out.below (hW7 ▸ below_alloc1 w7 _))))
  have R9 := N9.out.now.2
  have z0 := R9.cell 0
  have z1 := R9.cell 1
  have z2 := R9.cell 2
  have z3 := R9.cell 3
  obtain ⟨g8, hg8⟩ : ∃ g, W7.heap.size = g := ⟨_, rfl⟩
  obtain ⟨W8, hW8⟩ : ∃ W, W7.alloc (.cells #[.int .i64 key] 3) = W := ⟨_, rfl⟩
  have N10 := Lib.hid (N9.out.below (hW8 ▸ below_alloc1 W7 _))
  have S8 := Lib.hid (by
    have hs := slc_new (w := W7) (t := 3) #[.int .i64 key] 1
    rw [hW8, hg8] at hs
    exact HC.out p W8 _ _ N10.out.rep hs)
  clear hW7 y0 y1 y2 y3 hW6 hg6 R9
  go_upto_region 13 with (go_at_call 40; (with_reducible refine S8.out.mono ?_); rintro e w10 ⟨X10, k10, h10, rfl, r10, s10⟩; unfold Tr.rootV; (have N11 := Lib.hid (N10.out.stp r10 s10)); clear r10 s10; (obtain ⟨W10, hW10⟩ : ∃ W, w10.alloc (.cells #[.int .i64 k10.1, .int .i64 k10.2.1, .int .i64 k10.2.2, .int .i64 h10] 66) = W := ⟨_, rfl⟩); (have N12 := Lib.hid (N11.out.below (hW10 ▸ below_alloc1 w10 _))))
  clear hW10 z0 z1 z2 z3 hW8 hg8
  have d1 : decide (key < 0) = false := decide_eq_false (by have := Hk.out; omega)
  have d2 : decide (512 ≤ key) = false := decide_eq_false (by have := Hk.out; omega)
  have R12 := N12.out.now.2
  have u0 := R12.cell 0
  have u1 := R12.cell 1
  have u2 := R12.cell 2
  have u3 := R12.cell 3
  clear R12
  go_upto_region 16 with (go_at_call 35; (with_reducible refine (HL.out p W10 _ N12.out.rep).mono ?_); rintro e w13 ⟨X13, A13, n13, c13, rfl, r13, s13⟩; (have N13 := Lib.hid (N12.out.stp r13 s13)); clear r13 s13)
  go_upto_region 17 with (go_at_call 32; (with_reducible refine (HE.out p w13 _ N13.out.rep).mono ?_); rintro e w14 ⟨X14, k14, h14, rfl, r14, s14⟩; unfold Tr.rootV; (have N14 := Lib.hid (N13.out.stp r14 s14)); clear r14 s14; (obtain ⟨W14, hW14⟩ : ∃ W, w14.alloc (.cells #[.int .i64 k14.1, .int .i64 k14.2.1, .int .i64 k14.2.2, .int .i64 h14] 66) = W := ⟨_, rfl⟩); (have N15 := Lib.hid (N14.out.below (hW14 ▸ below_alloc1 w14 _))))
  clear hW14
  go_wp2_with fail
  go_ret
  exact ⟨rfl, N15.out.bel⟩
set_option maxRecDepth 8000 in
set_option maxHeartbeats 16000000 in
theorem tnone_vS (key : Int) (hk : 0 ≤ key ∧ key < 512) (w : World) : Calls Try.prog 16 #[.int .i64 key, .bool false] w fun e w' => e = .returned (.bool true) ∧ Below w.heap.size w w' := by
  have HAw := Lib.hid (tawake_any w)
  have Hk := Lib.hid hk
  have HG := Lib.hid (fun (p : Nat) (V : World) (X : Nat → Prop) (hr : MRep p V X (Tr.sN 0 1 0 1)) => show Calls Try.prog 37 #[.iface 61 (.pointer (some ⟨p, 0, none⟩)), .agg #[.int .i64 2, .int .i64 1, .int .i64 7, .int .i64 0], .int .i64 key] V (NG p V X (Tr.sN (0 + 1) 1 0 1) 0) from ng_no (k := (2, 1, 7)) (h := 0) hr kr217 hk (Tr.nn_get (i := 0) (v := 1) (by decide)))
  have HP := Lib.hid (fun (p : Nat) (V : World) (X : Nat → Prop) (A : Option Addr) (hr : MRep p V X (Tr.sN (0 + 1) 1 0 1)) (hs : SlC V V.heap.size A 1 1 (evs [⟨key, (9, 1, 0), 1⟩])) => show Calls Try.prog 39 #[.iface 61 (.pointer (some ⟨p, 0, none⟩)), .agg #[.int .i64 2, .int .i64 1, .int .i64 7, .int .i64 0], .slice A 1 1] V (NR p V X (Tr.sN (0 + 1 + 1) (1 + 1) 0 1) 7) from (put_any (memI p) inorder_any hr hs rfl (by decide) kr217 (fun h => Tr.root_plok (st := Tr.sN (0 + 1) 1 0 1) (Tr.nn_rootL _ _ _ _) (Tr.edk_put h))).mono fun e w' he => nr_err he (Tr.nn_put (i := 0 + 1) (v := 1) (by decide) (Tr.nn_eok hk) (by decide)))
  have HC := Lib.hid (fun (p : Nat) (V : World) (X : Nat → Prop) (A : Option Addr) (hr : MRep p V X (Tr.sN (0 + 1 + 1) (1 + 1) 0 1)) (hs : SlC V V.heap.size A 1 1 (ivs [key])) => show Calls Try.prog 40 #[.iface 61 (.pointer (some ⟨p, 0, none⟩)), .agg #[.int .i64 2, .int .i64 1, .int .i64 7, .int .i64 0], .slice A 1 1] V (NR p V X (Tr.sN (0 + 1 + 1 + 1) (1 + 1) 0 1) 0) from (cut_any (memI p) inorder_any hr hs rfl (by decide) kr217 (fun h => Tr.root_plok (st := Tr.sN (0 + 1 + 1) (1 + 1) 0 1) (Tr.nn_rootL _ _ _ _) (Tr.edk_cut h))).mono fun e w' he => nr_ok he (Tr.nn_cut (i := 0 + 1 + 1) (v := 1 + 1) (by decide) hk))
  have HL := Lib.hid (fun (p : Nat) (V : World) (X : Nat → Prop) (hr : MRep p V X (Tr.sN (0 + 1 + 1 + 1) (1 + 1) 0 1)) => show Calls Try.prog 35 #[.iface 61 (.pointer (some ⟨p, 0, none⟩)), .agg #[.int .i64 2, .int .i64 1, .int .i64 7, .int .i64 0]] V (NL p V X (Tr.sN (0 + 1 + 1 + 1 + 1) (1 + 1) 0 1) 0) from nl_ok (k := (2, 1, 7)) (h := 0) hr kr217 (Tr.nn_all (i := 0 + 1 + 1 + 1) (v := 1 + 1) (by decide)))
  have HE := Lib.hid (fun (p : Nat) (V : World) (X : Nat → Prop) (hr : MRep p V X (Tr.sN (0 + 1 + 1 + 1 + 1) (1 + 1) 0 1)) => show Calls Try.prog 32 #[.iface 61 (.pointer (some ⟨p, 0, none⟩))] V (NR p V X (Tr.plant Tr.mem 0 [] (Tr.sN (0 + 1 + 1 + 1 + 1) (1 + 1) 0 1)).1 7) from (empty_any (memI p) hr).mono fun e w' he => nr_err2 he (Tr.nn_empty_bad (i := 1 + 1) (j := 0 + 1 + 1 + 1 + 1) (by decide)))
  obtain ⟨B, hB⟩ : ∃ B, w.heap.size = B := ⟨_, rfl⟩
  rw [hB]
  go_enter Try.func16, Try.ntmps16
  go_upto_region 4 with (go_at_call 30; (with_reducible refine HAw.out.mono ?_); rintro e wa ⟨rfl, ba⟩; (have BA := Lib.hid ba); clear ba)
  obtain ⟨p, hp⟩ : ∃ p, wa.heap.size = p := ⟨_, rfl⟩
  obtain ⟨W1, hW1⟩ : ∃ W, wa.alloc (.cells #[.slice none 0 0, .int .i64 0, .int .i64 0, .int .i64 0, .int .i64 0] 64) = W := ⟨_, rfl⟩
  rw [hW1, hp]
  have N1 := Lib.hid (show LW B w p W1 (fun b => b = p) ⟨[], 0, 0, 0, 0⟩ fun _ => True from by
    have := BA.out.size
    subst hp
    rw [← hW1, ← hB]
    exact ⟨mrep_new wa, BA.out.trans ((below_alloc1 wa _).mono this), fun b hb => by have hb : b = wa.heap.size := hb; omega, by simp; omega, fun _ _ => trivial⟩)
  have H0 := Lib.hid (tn_empty0 N1.out.rep)
  unfold memV Tr.rootV at H0
  clear hW1 hp hB
  go_upto_region 5 with (go_at_call 32; (with_reducible refine H0.out.mono ?_); rintro e w2 ⟨X2, rfl, r2, s2⟩; dsimp only; (have N2 := Lib.hid (N1.out.stp r2 s2)); clear r2 s2)
  obtain ⟨b2, hb2⟩ : ∃ b, w2.heap.size = b := ⟨_, rfl⟩
  obtain ⟨W2, hW2⟩ : ∃ W, w2.alloc (.cells #[.int .i64 2, .int .i64 1, .int .i64 7, .int .i64 0] 66) = W := ⟨_, rfl⟩
  rw [hW2, hb2]
  have N3 := Lib.hid (by have := N2.out.new 66 #[.int .i64 2, .int .i64 1, .int .i64 7, .int .i64 0]; rw [hW2, hb2] at this; exact this)
  obtain ⟨d1, d2, d3, d4⟩ := N3.out.rep.bad4 1
  obtain ⟨W3, hW3⟩ : ∃ W, W2.setCell ⟨p, 4, none⟩ (.int .i64 1) = W := ⟨_, rfl⟩
  rw [hW3] at d1 d2
  have N4 := Lib.hid (N3.out.stp d1 d2)
  clear hb2 hW2 d1 d2
  go_upto_region 10 with fail
  have R4 := N4.out.now.2
  have x0 := R4.cell 0
  have x1 := R4.cell 1
  have x2 := R4.cell 2
  have x3 := R4.cell 3
  clear hW3 d3 d4 R4
  go_upto_region 11 with (go_at_call 37; (with_reducible refine (HG.out p W3 _ N4.out.rep).mono ?_); rintro e w5 ⟨X5, rfl, r5, s5⟩; (have N5 := Lib.hid (N4.out.stp r5 s5)); clear r5 s5)
  obtain ⟨W5, hW5⟩ : ∃ W, w5.alloc (.cells #[.int .i64 0, .int .i64 0, .int .i64 0, .int .i64 0, .int .i64 0] 84) = W := ⟨_, rfl⟩
  rw [hW5]
  have N6 := Lib.hid (N5.out.below (hW5 ▸ below_alloc1 w5 _))
  have R6 := N6.out.now.2
  have y0 := R6.cell 0
  have y1 := R6.cell 1
  have y2 := R6.cell 2
  have y3 := R6.cell 3
  obtain ⟨g6, hg6⟩ : ∃ g, W5.heap.size = g := ⟨_, rfl⟩
  obtain ⟨W6, hW6⟩ : ∃ W, W5.alloc (.cells #[.int .i64 key, .int .i64 9, .int .i64 1, .int .i64 0, .int .i64 1] 84) = W := ⟨_, rfl⟩
  have N7 := Lib.hid (N6.out.below (hW6 ▸ below_alloc1 W5 _))
  have S6 := Lib.hid (by
    have hs := slc_new (w := W5) (t := 84) #[.int .i64 key, .int .i64 9, .int .i64 1, .int .i64 0, .int .i64 1] 1
    rw [hW6, hg6] at hs
    exact HP.out p W6 _ _ N7.out.rep hs)
  clear hW5 x0 x1 x2 x3 R6
  go_upto_region 12 with (go_at_call 39; (with_reducible refine S6.out.mono ?_); rintro e w7 ⟨X7, k7, h7, rfl, r7, s7⟩; unfold Tr.rootV; (have N8 := Lib.hid (N7.out.stp r7 s7)); clear r7 s7; (obtain ⟨W7, hW7⟩ : ∃ W, w7.alloc (.cells #[.int .i64 k7.1, .int .i64 k7.2.1, .int .i64 k7.2.2, .int .i64 h7] 66) = W := ⟨_, rfl⟩); (have N9 := Lib.hid (N8.out.below (hW7 ▸ below_alloc1 w7 _))))
  have R9 := N9.out.now.2
  have z0 := R9.cell 0
  have z1 := R9.cell 1
  have z2 := R9.cell 2
  have z3 := R9.cell 3
  obtain ⟨g8, hg8⟩ : ∃ g, W7.heap.size = g := ⟨_, rfl⟩
  obtain ⟨W8, hW8⟩ : ∃ W, W7.alloc (.cells #[.int .i64 key] 3) = W := ⟨_, rfl⟩
  have N10 := Lib.hid (N9.out.below (hW8 ▸ below_alloc1 W7 _))
  have S8 := Lib.hid (by
    have hs := slc_new (w := W7) (t := 3) #[.int .i64 key] 1
    rw [hW8, hg8] at hs
    exact HC.out p W8 _ _ N10.out.rep hs)
  clear hW7 y0 y1 y2 y3 hW6 hg6 R9
  go_upto_region 13 with (go_at_call 40; (with_reducible refine S8.out.mono ?_); rintro e w10 ⟨X10, k10, h10, rfl, r10, s10⟩; unfold Tr.rootV; (have N11 := Lib.hid (N10.out.stp r10 s10)); clear r10 s10; (obtain ⟨W10, hW10⟩ : ∃ W, w10.alloc (.cells #[.int .i64 k10.1, .int .i64 k10.2.1, .int .i64 k10.2.2, .int .i64 h10] 66) = W := ⟨_, rfl⟩); (have N12 := Lib.hid (N11.out.below (hW10 ▸ below_alloc1 w10 _))))
  clear hW10 z0 z1 z2 z3 hW8 hg8
  have d1 : decide (key < 0) = false := decide_eq_false (by have := Hk.out; omega)
  have d2 : decide (512 ≤ key) = false := decide_eq_false (by have := Hk.out; omega)
  have R12 := N12.out.now.2
  have u0 := R12.cell 0
  have u1 := R12.cell 1
  have u2 := R12.cell 2
  have u3 := R12.cell 3
  clear R12
  go_upto_region 16 with (go_at_call 35; (with_reducible refine (HL.out p W10 _ N12.out.rep).mono ?_); rintro e w13 ⟨X13, A13, n13, c13, rfl, r13, s13⟩; (have N13 := Lib.hid (N12.out.stp r13 s13)); clear r13 s13)
  go_upto_region 17 with (go_at_call 32; (with_reducible refine (HE.out p w13 _ N13.out.rep).mono ?_); rintro e w14 ⟨X14, k14, h14, rfl, r14, s14⟩; unfold Tr.rootV; (have N14 := Lib.hid (N13.out.stp r14 s14)); clear r14 s14; (obtain ⟨W14, hW14⟩ : ∃ W, w14.alloc (.cells #[.int .i64 k14.1, .int .i64 k14.2.1, .int .i64 k14.2.2, .int .i64 h14] 66) = W := ⟨_, rfl⟩); (have N15 := Lib.hid (N14.out.below (hW14 ▸ below_alloc1 w14 _))))
  clear hW14
  go_wp2_with fail
  go_ret
  exact ⟨rfl, N15.out.bel⟩
theorem tnone_any (key : Int) (load : Bool) (w : World) : Calls Try.prog 16 #[.int .i64 key, .bool load] w fun e w' => e = .returned (.bool true) ∧ Below w.heap.size w w' := by
  by_cases hk : 0 ≤ key ∧ key < 512
  · cases load
    · exact tnone_vS key hk w
    · exact tnone_vL key hk w
  · cases load
    · exact tnone_iS key hk w
    · exact tnone_iL key hk w
end Go.Proofs.Ytfjhimnjipdajaa
