/- plant and change, plain: the new root stands right, and holds what the edits make of the old one's entries. -/
import Derived.Test.YtlcchefiicalpaaZwbj
import Derived.Test.YtlcchefiicalpaaZwcg
namespace Go.Proofs.Ytlcchefiicalpaa
open Go.RowKit
namespace Tr
/-- A root that stands right, and what it holds. -/
def RootOk (M : List Nd.N) (k : Nd.T3) (h : Int) (m : List E) : Prop := ∃ hn : Nat, h = (hn : Int) ∧ hn ≤ 5 ∧ Good M hn k.1 0 512 ∧ KidsF M hn k.1 ∧ Nd.KidOk k ∧ ent M hn k.1 = m
theorem kids_app {M : List Nd.N} (N : List Nd.N) {h : Nat} {a f t : Int} (hg : Good M h a f t) (hk : KidsF M h a) : KidsF (M ++ N) h a := by
  cases h with
  | zero => trivial
  | succ h =>
    intro i hi
    rw [nd_app hg.in_] at hi ⊢
    exact full_app N (hg.kid hi) (hk i hi)
theorem RootOk.app {M : List Nd.N} {k : Nd.T3} {h : Int} {m : List E} (hr : RootOk M k h m) (N : List Nd.N) : RootOk (M ++ N) k h m := by
  obtain ⟨hn, h1, h2, h3, h4, h5, h6⟩ := hr
  obtain ⟨g1, g2⟩ := h3.app (L' := N)
  exact ⟨hn, h1, h2, g1, kids_app N h3 h4, h5, g2.trans h6⟩
theorem RootOk.asc {M : List Nd.N} {k : Nd.T3} {h : Int} {m : List E} (hr : RootOk M k h m) : Asc m ∧ ∀ e ∈ m, 0 ≤ e.k ∧ e.k < 512 := by
  obtain ⟨hn, h1, h2, h3, h4, h5, h6⟩ := hr
  rw [← h6]
  exact ⟨h3.asc, h3.within⟩
def ow2 (n : Nat) : Nat := max 2 ((n + 7) / 8)
theorem plantUp_good : ∀ (f : Nat) {h : Nat} {l : List (Pt h)} {st : MSt}, f + h = 5 → Ch (Sg st.L h) l 0 512 → Wfs l → (∀ q ∈ l, Thin h q) → (∀ q ∈ l, Fl st.L h q) → (0 < h → l ≠ []) →
    Ends (plantUp mem f h l st) (fun st' r => (∃ n, Mor st st' n ∧ n ≤ 1 + pots l + f * ow2 l.length) ∧ RootOk st'.L r.1 r.2 (conts st.L l)) (E7 st (1 + pots l + f * ow2 l.length)) := by
  intro f h l st hfh hc hw ht hf hne
  have hnp := nfs_pots l
  by_cases h8 : l.length ≤ 8
  · have hs := save_good (h := h) (by omega) (by decide) (by decide) hc hw h8 ht hne
    rw [up_save mem st h8]
    unfold SvO at hs
    rcases e : save mem h st l with ⟨st1, er | k⟩
    · rw [e] at hs
      exact E7.mono hs (by omega)
    · rw [e] at hs
      obtain ⟨s1, s2, s3, s4, s5⟩ := hs
      exact ⟨⟨_, s1, by omega⟩, h, rfl, by omega, s2, (s5 hf).1, s4, s3⟩
  · cases f with
    | zero =>
      exfalso
      obtain rfl : h = 5 := by omega
      have := ch_few hc hf
      omega
    | succ f =>
      rw [up_more mem st (by omega)]
      have hl : (pieces l).length = (l.length + 7) / 8 := pieces_len' l
      have ih := plantUp_good f (h := h + 1) (l := pieces l) (st := st) (by omega) (pieces_ch hc) (pieces_wf hw).1 (pieces_thin ht) (pieces_fl hf (by omega)) (fun _ e => by
        rw [e] at hl
        have : ([] : List (Pt (h + 1))).length = 0 := rfl
        omega)
      have hp := pieces_pots l
      have ho := own_le l.length
      have h1 : ow2 (pieces l).length ≤ ow2 l.length := by unfold ow2; rw [hl]; omega
      have h2 : f * ow2 (pieces l).length ≤ f * ow2 l.length := Nat.mul_le_mul_left _ h1
      have h3 : (f + 1) * ow2 l.length = f * ow2 l.length + ow2 l.length := by rw [Nat.add_mul, Nat.one_mul]
      have h4 : own l.length ≤ ow2 l.length := ho
      rw [pieces_cont] at ih
      refine ih.mono (fun st' r hr => ?_) fun st' e he => E7.mono he (by omega)
      obtain ⟨⟨n, r1, r2⟩, r3⟩ := hr
      exact ⟨⟨n, r1, by omega⟩, r3⟩
theorem plant_good : ∀ (h : Nat) {l : List (Pt h)} {st : MSt}, h ≤ 5 → Ch (Sg st.L h) l 0 512 → Wfs l → (∀ q ∈ l, Thin h q) → Ql st.L l →
    Ends (plant mem h l st) (fun st' r => (∃ n, Mor st st' n ∧ n ≤ 1 + pots l + 5 * ow2 l.length) ∧ RootOk st'.L r.1 r.2 (conts st.L l)) (E7 st (1 + pots l + 5 * ow2 l.length))
  | 0, l, st, _, hc, hw, ht, _ => plantUp_good 5 rfl hc hw ht (fun _ _ => trivial) fun h => absurd h (Nat.lt_irrefl _)
  | h + 1, [], st, _, hc, hw, ht, _ => by
    have := plantUp_good 5 (h := 0) (l := []) (st := st) rfl (show (0 : Int) ≤ 512 by decide) Wfs.nil (fun q hq => by cases hq) (fun q hq => by cases hq) fun h => absurd h (Nat.lt_irrefl _)
    rw [plant_none]
    exact this
  | h + 1, [.inl b], st, h5, ⟨m, hp, hc⟩, hw, ht, hq => by
    obtain ⟨⟨a1, a2⟩, ⟨a3, a4, a5⟩, a6⟩ := hp
    have hm : m ≤ 512 := hc
    have hf : FullT st.L h b.k.1 := by
      rcases hq with hq | ⟨q, he, hq⟩
      · exact hq _ (List.mem_singleton.2 rfl)
      · injection he with he
        subst he
        exact hq
    refine ⟨⟨0, Mor.refl _, Nat.zero_le _⟩, h, rfl, by omega, a6.mono a3 (by omega), hf.kids, a1, ?_⟩
    show ent st.L h b.k.1 = ent st.L h b.k.1 ++ []
    rw [List.append_nil]
  | h + 1, [.inr p], st, h5, ⟨m, hp, hc⟩, hw, ht, hq => by
    have hm : m ≤ 512 := hc
    have hw0 := (hw (frs p) (List.mem_singleton.2 rfl)).1
    have ht0 := ht (frs p) (List.mem_singleton.2 rfl)
    have hql : Ql st.L p := by
      rcases hq with hq | ⟨q, he, hq⟩
      · exact .inl (hq (frs p) (List.mem_singleton.2 rfl)).2
      · injection he with he
        subst he
        exact hq
    have ih := plant_good h (l := p) (st := st) (by omega) (Ch.hi (sg_mo _ _) hm hp) hw0 ht0.2 hql
    have e : plant mem (h + 1) [frs p] st = plant mem h p st := plant_frs mem st
    have h1 : ow2 p.length ≤ 2 := by have := ht0.1; unfold ow2; omega
    have h2 : 2 ≤ ow2 [frs p].length := by unfold ow2; omega
    have h3 : pots p ≤ pots [frs p] := by rw [pots_cons, pot_frs]; omega
    have h4 : conts st.L [frs p] = conts st.L p := by rw [conts_cons, conts_nil, List.append_nil]; rfl
    show Ends (plant mem (h + 1) [frs p] st) (fun st' r => (∃ n, Mor st st' n ∧ n ≤ 1 + pots [frs p] + 5 * ow2 [frs p].length) ∧ RootOk st'.L r.1 r.2 (conts st.L [frs p])) (E7 st (1 + pots [frs p] + 5 * ow2 [frs p].length))
    rw [e, h4]
    refine ih.mono (fun st' r hr => ?_) fun st' e he => E7.mono he (by omega)
    obtain ⟨⟨n, r1, r2⟩, r3⟩ := hr
    exact ⟨⟨n, r1, by omega⟩, r3⟩
  | h + 1, x :: y :: l, st, h5, hc, hw, ht, hq => by
    have hf : ∀ q ∈ x :: y :: l, Fl st.L (h + 1) q := by
      rcases hq with hq | ⟨q, he, -⟩
      · exact hq
      · injection he with _ he
        cases he
    rw [(plant_many mem st (l := x :: y :: l) (by simp only [List.length_cons]; omega)).1]
    have := plantUp_good (5 - (h + 1)) (h := h + 1) (l := x :: y :: l) (st := st) (by omega) hc hw ht hf (fun _ e => by cases e)
    have hb : (5 - (h + 1)) * ow2 (x :: y :: l).length ≤ 5 * ow2 (x :: y :: l).length := Nat.mul_le_mul_right _ (by omega)
    refine this.mono (fun st' r hr => ?_) fun st' e he => E7.mono he (by omega)
    obtain ⟨⟨n, r1, r2⟩, r3⟩ := hr
    exact ⟨⟨n, r1, by omega⟩, r3⟩
/-- A root's parts are never too many. -/
theorem plok_thin : ∀ {h : Nat} {l : List (Pt h)}, h ≤ 5 → (∀ q ∈ l, Thin h q) → l.length ≤ 8 → PlOk h l
  | 0, l, _, _, h8 => Nat.le_trans h8 (by decide)
  | h + 1, [], _, _, _ => trivial
  | h + 1, [.inl b], _, _, _ => trivial
  | h + 1, [.inr m], h5, ht, _ => by
    have := ht (frs m) (List.mem_singleton.2 rfl)
    exact plok_thin (h := h) (l := m) (by omega) this.2 this.1
  | h + 1, x :: y :: l, h5, _, h8 => by
    have h2 := (plant_many mem (⟨[], 0, 0, 0, 0⟩ : MSt) (l := x :: y :: l) (by simp only [List.length_cons]; omega)).2
    refine h2.2 (Nat.le_trans h8 ?_)
    have : 8 ^ 1 ≤ 8 ^ (5 - h) := Nat.pow_le_pow_right (by decide) (by omega)
    omega
theorem plok_ql {M : List Nd.N} : ∀ {h : Nat} {l : List (Pt h)}, h ≤ 5 → Ch (Sg M h) l 0 512 → Ql M l → PlOk h l
  | 0, l, _, hc, _ => by
    have := ch_few hc fun _ _ => trivial
    show l.length ≤ 8 ^ 6
    omega
  | h + 1, [], _, _, _ => trivial
  | h + 1, [.inl b], _, _, _ => trivial
  | h + 1, [.inr p], h5, ⟨m, hp, hc⟩, hq => by
    have hm : m ≤ 512 := hc
    refine plok_ql (h := h) (l := p) (by omega) (Ch.hi (sg_mo _ _) hm hp) ?_
    rcases hq with hq | ⟨q, he, hq⟩
    · exact .inl (hq (frs p) (List.mem_singleton.2 rfl)).2
    · injection he with he
      subst he
      exact hq
  | h + 1, x :: y :: l, h5, hc, hq => by
    have hf : ∀ q ∈ x :: y :: l, Fl M (h + 1) q := by
      rcases hq with hq | ⟨q, he, -⟩
      · exact hq
      · injection he with _ he
        cases he
    have h1 := ch_few hc hf
    have h2 := (plant_many mem (⟨[], 0, 0, 0, 0⟩ : MSt) (l := x :: y :: l) (by simp only [List.length_cons]; omega)).2
    refine h2.2 ?_
    obtain ⟨n, hn⟩ : ∃ n, (x :: y :: l).length = n := ⟨_, rfl⟩
    rw [hn] at h1 ⊢
    clear h2 hf hq hc
    rcases (show h = 0 ∨ h = 1 ∨ h = 2 ∨ h = 3 ∨ h = 4 by omega) with rfl | rfl | rfl | rfl | rfl
    · rw [show (4 : Nat) ^ (0 + 1) = 4 from rfl] at h1
      rw [show (8 : Nat) ^ (5 - 0) = 32768 from rfl]
      omega
    · rw [show (4 : Nat) ^ (1 + 1) = 16 from rfl] at h1
      rw [show (8 : Nat) ^ (5 - 1) = 4096 from rfl]
      omega
    · rw [show (4 : Nat) ^ (2 + 1) = 64 from rfl] at h1
      rw [show (8 : Nat) ^ (5 - 2) = 512 from rfl]
      omega
    · rw [show (4 : Nat) ^ (3 + 1) = 256 from rfl] at h1
      rw [show (8 : Nat) ^ (5 - 3) = 64 from rfl]
      omega
    · rw [show (4 : Nat) ^ (4 + 1) = 1024 from rfl] at h1
      rw [show (8 : Nat) ^ (5 - 4) = 8 from rfl]
      omega
theorem sortE_mem {l : List Ed} {y : Ed} : y ∈ sortE l → y ∈ l := by
  have K : ∀ (l s : List Ed), y ∈ l.foldl (fun s x => insE x s) s → y ∈ l ∨ y ∈ s := by
    intro l
    induction l with
    | nil => exact fun s h => .inr h
    | cons x l ih =>
      intro s h
      rcases ih _ h with h | h
      · exact .inl (List.mem_cons_of_mem _ h)
      · rcases insE_mem.1 h with rfl | h
        · exact .inl (List.mem_cons_self ..)
        · exact .inr h
  intro h
  rcases K l [] h with h | h
  · exact h
  · cases h
/-- An error of change: a load's, or a save's. -/
structure ErrC (st : MSt) (n : Nat) (st' : MSt) (e : Int) : Prop where
  L : ∃ l, st'.L = st.L ++ l ∧ l.length ≤ n
  bl : st'.bl = st.bl
  bs : st'.bs = st.bs
  why : (e = 6 ∧ 0 < st.bl) ∨ (e = 7 ∧ (0 < st.bs ∨ 8000 < st'.L.length))
def EdK (eds : List Ed) : Prop := ∀ x ∈ eds, (0 ≤ x.x.k ∧ x.x.k < 512) ∧ (x.cut = false → EOk x.x)
theorem KS.mor {s st : MSt} (h : KS s st) : Mor s st 0 := ⟨⟨[], by rw [h.L, List.append_nil], rfl⟩, h.bl, h.bs, fun ⟨h1, h2⟩ => ⟨by rw [h.sv, h.L]; exact h1, by rw [h.L]; exact h2⟩⟩
/-- What edited answers at a root that stands right. -/
theorem root_edited {st : MSt} {k : Nd.T3} {h : Int} {m : List E} (hr : RootOk st.L k h m) {eds : List Ed} (hx : EdK eds) : Ends (edited mem h.toNat st (trunk k h) (inOrder eds)) (fun st' r => KS st st' ∧ (r.2 = true → Ch (Sg st.L h.toNat) r.1 0 512 ∧ Ql st.L r.1 ∧ Wfs r.1 ∧ (∀ q ∈ r.1, Thin h.toNat q) ∧ r.1.length ≤ 8 + np (inOrder eds) ∧ pots r.1 ≤ 2 * (inOrder eds).length * h.toNat ∧ conts st.L r.1 = merged (inOrder eds) m) ∧ (r.2 = false → merged (inOrder eds) m = m)) (E6 st) := by
  obtain ⟨hn, rfl, h5, hg, hk, ho, hm⟩ := hr
  have hmem : ∀ x ∈ inOrder eds, x ∈ eds := fun x hxi => sortE_mem (inOrder_mem hxi)
  have hE : EdsOk (inOrder eds) 0 := ⟨inOrder_asc eds, fun x hxi => ⟨(hx x (hmem x hxi)).1.1, (hx x (hmem x hxi)).2⟩⟩
  have hlt : ∀ x ∈ inOrder eds, x.x.k < 512 := fun x hxi => (hx x (hmem x hxi)).1.2
  rw [Int.toNat_natCast]
  have G := edited_good (s := st) hn (st := st) (b := trunk k (hn : Int)) (eds := inOrder eds) (lo := 0) (KS.refl st) hg rfl hk (Int.le_refl _) (show (0 : Int) < 512 by decide) hE hlt
  have SL := edited_slim mem hn (st := st) (b := trunk k (hn : Int)) (eds := inOrder eds)
  rcases e : edited mem hn st (trunk k (hn : Int)) (inOrder eds) with ⟨st1, er | ⟨l, c⟩⟩
  · rw [e] at G; exact G
  · rw [e] at G SL
    obtain ⟨g1, g2⟩ := G
    obtain ⟨s1, s2, s3⟩ := SL
    have W := edited_wf mem hn (st := st) (b := trunk k (hn : Int)) (eds := inOrder eds) (l := l) (c := c) (Int.toNat_natCast hn) (by rw [e])
    have C := edited_cont st.L mem_brings hn (st := st) (b := trunk k (hn : Int)) (eds := inOrder eds) (l := l) (c := c) rfl hg (inOrder_asc eds) hlt (by rw [e])
    have hm' : ent st.L hn (trunk k (hn : Int)).k.1 = m := hm
    rw [hm'] at C
    refine ⟨g1, fun hc => ?_, fun hc => C.2.2 hc⟩
    obtain ⟨g3, g4⟩ := g2 hc
    exact ⟨g3, g4, W.1, s1, s2, s3, C.2.1 hc⟩
theorem change_good {st : MSt} {k : Nd.T3} {h : Int} {m : List E} (hr : RootOk st.L k h m) {eds : List Ed} (hx : EdK eds) : Ends (change mem st k h eds) (fun st' r => (∃ n, Mor st st' n ∧ n ≤ 15 * eds.length + 6) ∧ RootOk st'.L r.1 r.2 (merged (inOrder eds) m)) (ErrC st (15 * eds.length + 6)) := by
  unfold change
  by_cases h0 : eds = []
  · rw [if_pos h0]
    subst h0
    exact ⟨⟨0, Mor.refl _, Nat.zero_le _⟩, hr⟩
  · rw [if_neg h0]
    have R := root_edited hr hx
    have hlen := inOrder_len eds
    have hpos : 0 < (inOrder eds).length := List.length_pos_iff.2 (inOrder_ne h0)
    have hnp := np_le (inOrder eds)
    rcases e : edited mem h.toNat st (trunk k h) (inOrder eds) with ⟨st1, er | ⟨l, c⟩⟩
    · rw [e] at R
      obtain ⟨r1, r2, r3⟩ := R
      exact ⟨⟨[], by rw [r1.L, List.append_nil], Nat.zero_le _⟩, r1.bl, r1.bs, .inl ⟨r2, r3⟩⟩
    · rw [e] at R
      obtain ⟨r1, r2, r3⟩ := R
      dsimp only
      cases c
      · rw [if_neg (by decide)]
        refine ⟨⟨0, r1.mor, Nat.zero_le _⟩, ?_⟩
        dsimp only
        rw [r3 rfl, r1.L]
        exact hr
      · rw [if_pos rfl]
        obtain ⟨a1, a2, a3, a4, a5, a6, a7⟩ := r2 rfl
        dsimp only at a1 a2 a3 a4 a5 a6 a7
        rw [← r1.L] at a1 a2 a7
        have h5 : h.toNat ≤ 5 := by obtain ⟨hn, rfl, h5, -⟩ := hr; rw [Int.toNat_natCast]; exact h5
        have P := plant_good h.toNat (l := l) (st := st1) h5 a1 a3 a4 a2
        have hb : 1 + pots l + 5 * ow2 l.length ≤ 15 * eds.length + 6 := by
          have h1 : 2 * (inOrder eds).length * h.toNat ≤ 2 * (inOrder eds).length * 5 := Nat.mul_le_mul_left _ h5
          unfold ow2
          omega
        rw [a7] at P
        refine P.mono (fun st' r hr => ?_) fun st' e he => ?_
        · obtain ⟨⟨n, p1, p2⟩, p3⟩ := hr
          exact ⟨⟨0 + n, r1.mor.trans p1, by omega⟩, p3⟩
        · have he := (E7.from_ r1.mor he).mono (n' := 15 * eds.length + 6) (by omega)
          exact ⟨he.L, he.bl, he.bs, .inr ⟨he.e, he.why⟩⟩
/-- The parts that a Put, a Cut leaves for the root. -/
theorem root_plok {st : MSt} {k : Nd.T3} {h : Int} {m : List E} (hr : RootOk st.L k h m) {eds : List Ed} (hx : EdK eds) : ∀ s2 l, edited mem h.toNat st (trunk k h) (inOrder eds) = (s2, .ok (l, true)) → PlOk h.toNat l := fun s2 l he => by
  have R := root_edited hr hx
  rw [he] at R
  obtain ⟨-, r2, -⟩ := R
  obtain ⟨a1, a2, -⟩ := r2 rfl
  obtain ⟨hn, rfl, h5, -⟩ := hr
  exact plok_ql (by rw [Int.toNat_natCast]; exact h5) a1 a2
theorem cut_plok {σ : Type} (S : Sto σ) {st : σ} {k : Nd.T3} {h : Int} {eds : List Ed} (hx : ∀ x ∈ eds, x.cut = true) (h5 : h.toNat ≤ 5) : ∀ s2 l, edited S h.toNat st (trunk k h) (inOrder eds) = (s2, .ok (l, true)) → PlOk h.toNat l := fun s2 l he => by
  have SL := edited_slim S h.toNat (st := st) (b := trunk k h) (eds := inOrder eds)
  rw [he] at SL
  obtain ⟨s1, s2, s3⟩ := SL
  have hnp : np (inOrder eds) = 0 := by
    unfold np
    rw [List.length_eq_zero_iff, List.filter_eq_nil_iff]
    intro x hxi
    rw [hx x (sortE_mem (inOrder_mem hxi))]
    simp
  exact plok_thin h5 s1 (by dsimp only at s2; omega)
end Tr
end Go.Proofs.Ytlcchefiicalpaa
