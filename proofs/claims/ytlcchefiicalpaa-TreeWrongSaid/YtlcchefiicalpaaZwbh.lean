/- The program's joinLast. -/
import Derived.Test.YtlcchefiicalpaaZwbd
import Derived.Test.YtlcchefiicalpaaZwbg
namespace Go.Proofs.Ytlcchefiicalpaa
open Go.RowKit
theorem own_range {w : World} {B n g c : Nat} {cs : List Tr.PC} (h : w.ownsRow B 160 14 (.slice (some ⟨g, 0, none⟩) n c) n (pcs cs)) {i : Nat} {x : Tr.PC} (hi : cs[i]? = some x) : w.rangeAt g (i * 14) (pc1 x) := by
  have hl := pcs_len cs
  have hil : i < cs.length := (List.getElem?_eq_some_iff.1 hi).1
  have h1 := h.1
  intro j v hv
  have hj : j < 14 := (List.getElem?_eq_some_iff.1 hv).1
  rw [h.cellAt (i * 14 + j) (by omega), pcs_at hi hj, hv]
theorem own_some {w : World} {B n e size : Nat} {v : Value} {xs : List Value} (h : w.ownsRow B e size v n xs) (hn : 0 < n) : ∃ g c, v = .slice (some ⟨g, 0, none⟩) n c := by
  rcases h.2 with ⟨rfl, rfl⟩ | ⟨g, c, cur, rfl, -⟩
  · omega
  · exact ⟨g, c, rfl⟩
theorem own_prefix {w : World} {B n g c e size : Nat} {xs : List Value} (h : w.ownsRow B e size (.slice (some ⟨g, 0, none⟩) n c) n xs) {k : Nat} (hk : k ≤ n) : w.ownsRow B e size (.slice (some ⟨g, 0, none⟩) k c) k (xs.take (k * size)) := by
  rcases h.2 with ⟨e', -⟩ | ⟨g', c', cur, e', hB, hg, h1, h2, h3, h4⟩
  · cases e'
  · injection e' with e1 _ e3
    injection e1 with e1
    injection e1 with e1
    subst e1; subst e3
    exact ⟨by rw [List.length_take, h.1, Nat.min_eq_left (Nat.mul_le_mul_right _ hk)], .inr ⟨g, c, cur, rfl, hB, hg, by omega, h2, h3, by rw [← h4, List.take_take, Nat.min_eq_left (Nat.mul_le_mul_right _ hk)]⟩⟩
section
variable {σ : Type} (D : StoI σ)
/-- What is asked of fit at a height. -/
def FitC (h : Nat) : Prop := ∀ {w : World} {X G : Nat → Prop} {st : σ} {l : List (Tr.Pt (h + 1))} {A : Option Addr} {c : Nat}, D.Rep w X st → (∀ b, G b → b < w.heap.size) → PLX (fun b => X b ∨ G b) w (h + 1) l A c → Tr.WfA l → Tr.wts l ≤ 1000000 → l.length ≤ 1000000 →
  Calls Try.prog 99 #[D.val, .slice A l.length c, .int .i64 (h : Int)] w (PsR D w X G (h + 1) (Tr.fit D.S h st l).1 (Tr.fit D.S h st l).2)
/-- What joinLast answers: the row, its last two parts joined. -/
def JlR (D : StoI σ) (w : World) (X G : Nat → Prop) (B h : Nat) (l : List (Tr.Pt (h + 1))) (v : Value) (st' : σ) (r : Except Int (Tr.Pt (h + 1))) (e : Ending) (w' : World) : Prop := ∃ X', D.Rep w' X' st' ∧ Chg (fun b => X b ∨ v.ownBlock = some b) w w' ∧ (∀ b, X' b → X b ∨ w.heap.size ≤ b) ∧ (match r with
  | .error er => er ≠ 0 ∧ e = .returned (.tuple #[.slice none 0 0, .int .i64 er])
  | .ok z => ∃ A c cs, e = .returned (.tuple #[.slice A (l.length + 1) c, .int .i64 0]) ∧ PQ (fun b => X' b ∨ G b) w' B (h + 1) (l ++ [z]) (.slice A (l.length + 1) c) cs ∧ ∀ k, (Value.slice A (l.length + 1) c).ownBlock = some k → v.ownBlock = some k ∨ w.heap.size ≤ k)
theorem PQ.front {X : Nat → Prop} {w : World} {B h g n c k : Nat} {l m : List (Tr.Pt h)} {cs : List Tr.PC} (hp : PQ X w B h (l ++ m) (.slice (some ⟨g, 0, none⟩) n c) cs) (hk : l.length = k) : PQ X w B h l (.slice (some ⟨g, 0, none⟩) k c) (cs.take k) := by
  subst hk
  have hn : n = (l ++ m).length := by
    rcases hp.own.2 with ⟨e, e'⟩ | ⟨g', cap, cur, e, -⟩
    · cases e
    · injection e
  subst hn
  refine ⟨?_, hp.far, hp.are.mono fun u hu => ?_⟩
  · have := own_prefix hp.own (k := l.length) (by rw [List.length_append]; omega)
    rw [← pcs_take] at this
    exact this
  · have := hu.take l.length
    rw [List.take_left] at this
    exact this
theorem jl_own {w w5 W6 : World} {X X3 G : Nat → Prop} {B h g n c k : Nat} {l m : List (Tr.Pt (h + 1))} {cs : List Tr.PC} (hp : PQ (fun b => X b ∨ G b) w B (h + 1) (l ++ m) (.slice (some ⟨g, 0, none⟩) n c) cs) (hk : l.length = k) (hS : Stp w X w5 X3) (hb : Below w5.heap.size w5 W6) : PQ (fun b => X3 b ∨ G b) W6 B (h + 1) l (.slice (some ⟨g, 0, none⟩) k c) (cs.take k) :=
  ((hp.step (hS.with G)).below hb).front hk
theorem jl_end {w w5 W6 w7 : World} {X X3 G G' : Nat → Prop} {st : σ} {B h g n c k : Nat} {l m : List (Tr.Pt (h + 1))} {cs : List Tr.PC} {p : Tr.Pt (h + 1)} {z : Tr.PC} {A7 : Option Addr} {c7 : Nat} (hp : PQ (fun b => X b ∨ G b) w B (h + 1) (l ++ m) (.slice (some ⟨g, 0, none⟩) n c) cs) (hk : l.length = k) (hG : ∀ b, G b → b < w.heap.size) (hg : g < w.heap.size) (hG' : G' = fun b => G b ∨ b = g) (hR : D.Rep w5 X3 st) (hS : Stp w X w5 X3) (hb : Below w5.heap.size w5 W6)
    (hz : Fast (fun b => X3 b ∨ G' b) w5 fun u => PR u (h + 1) p z) (o : w7.ownsRow B 160 14 (.slice A7 (k + 1) c7) (k + 1) (pcs (cs.take k) ++ pcs [z])) (gr : W6.grownBy w7 (some g)) (hv : (Value.slice A7 (k + 1) c7).ownBlock = some g ∨ (Value.slice A7 (k + 1) c7).ownBlock = some W6.heap.size) :
    D.Rep w7 X3 st ∧ Chg (fun b => X b ∨ (Value.slice (some ⟨g, 0, none⟩) n c).ownBlock = some b) w w7 ∧ (∀ b, X3 b → X b ∨ w.heap.size ≤ b) ∧ PQ (fun b => X3 b ∨ G b) w7 B (h + 1) (l ++ [p]) (.slice A7 (l.length + 1) c7) (cs.take k ++ [z]) ∧ ∀ q, (Value.slice A7 (l.length + 1) c7).ownBlock = some q → (Value.slice (some ⟨g, 0, none⟩) n c).ownBlock = some q ∨ w.heap.size ≤ q := by
  have hO := jl_own hp hk hS hb
  have hgX : ¬ X g := fun hx => (hp.far g rfl).1 (.inl hx)
  have hg3 : ¬ X3 g := hS.far hg hgX
  have c6 : Chg (fun b => b = g) w5 w7 := ((Chg.of_below (fun b => b = g) hb).then_ ⟨gr.os, gr.tape, gr.output, gr.size, fun i hi hn => gr.block i hi fun e => hn (Option.some.inj e)⟩)
  subst hk
  refine ⟨D.keep hR c6 fun b hx e => hg3 (e ▸ hx), ⟨c6.os.trans hS.chg.os, c6.tape.trans hS.chg.tape, c6.output.trans hS.chg.output, Nat.le_trans hS.chg.size c6.size, fun i hi hn => (c6.block i (Nat.lt_of_lt_of_le hi hS.chg.size) fun e => hn (.inr (by rw [e]; rfl))).trans (hS.chg.block i hi fun e => hn (.inl e))⟩, hS.new, ?_, fun q hq => ?_⟩
  · refine hO.push (m := [p]) (ds := [z]) (fun b hb' => ?_) ?_ o gr hv
    · rcases hb' with hb' | hb'
      · exact Nat.lt_of_lt_of_le (D.lt hR hb') hb.size
      · exact Nat.lt_of_lt_of_le (hG b hb') (Nat.le_trans hS.chg.size hb.size)
    · refine ((hz.below hb).anti fun b hb' => ?_).mono fun u hu => .one hu
      rw [hG']
      rcases hb' with (hb' | hb') | hb'
      · exact .inl hb'
      · exact .inr (.inl hb')
      · injection hb' with hb'; exact .inr (.inr hb'.symm)
  · rcases hv with e | e
    · rw [e] at hq; exact .inl hq
    · rw [e] at hq; injection hq with hq; subst hq; exact .inr (Nat.le_trans hS.chg.size hb.size)
theorem opn_err {h : Nat} {st : σ} {p : Tr.Pt (h + 1)} {e : Int} (he : (Tr.opn D.S h st p).2 = .error e) : e ≠ 0 := by
  cases p with
  | inl b =>
    unfold Tr.opn Tr.partsOf at he
    dsimp only at he
    rcases hl : Tr.load D.S st b with ⟨st', e' | n⟩
    · rw [hl] at he
      injection he with he
      subst he
      exact load_err D (by rw [hl])
    · rw [hl] at he; cases he
  | inr l => cases he
theorem fitA_err {h : Nat} {jn : σ → Tr.Pt (h + 1) → Tr.Pt (h + 1) → Tr.Res σ (Tr.Pt (h + 1))} (hj : ∀ {st x y} {e : Int}, (jn st x y).2 = .error e → e ≠ 0) : ∀ {l : List (Tr.Pt (h + 1))} {st : σ} {s : List (Tr.Pt (h + 1))} {e : Int}, (Tr.fitA jn l st s).2 = .error e → e ≠ 0
  | [], _, _, _, he => by cases he
  | x :: l, st, s, e, he => by
    unfold Tr.fitA at he
    split at he
    · exact fitA_err hj he
    · cases s with
      | nil => exact fitA_err hj he
      | cons y s =>
        dsimp only at he
        split at he
        · rcases hz : jn st y x with ⟨st', e' | z⟩
          · rw [hz] at he
            injection he with he
            subst he
            exact hj (show (jn st y x).2 = .error e' by rw [hz])
          · rw [hz] at he
            exact fitA_err hj he
        · exact fitA_err hj he
theorem fitB_err {h : Nat} {jn : σ → Tr.Pt (h + 1) → Tr.Pt (h + 1) → Tr.Res σ (Tr.Pt (h + 1))} (hj : ∀ {st x y} {e : Int}, (jn st x y).2 = .error e → e ≠ 0) : ∀ {m : Nat} {st : σ} {s : List (Tr.Pt (h + 1))} {e : Int}, (Tr.fitB jn m st s).2 = .error e → e ≠ 0
  | 0, _, _, _, he => by cases he
  | m + 1, st, s, e, he => by
    unfold Tr.fitB at he
    split at he
    · rename_i x y s
      split at he
      · rcases hz : jn st y x with ⟨st', e' | z⟩
        · rw [hz] at he
          injection he with he
          subst he
          exact hj (show (jn st y x).2 = .error e' by rw [hz])
        · rw [hz] at he
          exact fitB_err hj he
      · cases he
    · cases he
theorem fitJ_err {h : Nat} {jn : σ → Tr.Pt (h + 1) → Tr.Pt (h + 1) → Tr.Res σ (Tr.Pt (h + 1))} (hj : ∀ {st x y} {e : Int}, (jn st x y).2 = .error e → e ≠ 0) {st : σ} {l : List (Tr.Pt (h + 1))} {e : Int} (he : (Tr.fitJ jn st l).2 = .error e) : e ≠ 0 := by
  unfold Tr.fitJ at he
  rcases h1 : Tr.fitA jn l st [] with ⟨st1, e' | s⟩
  · rw [h1] at he
    injection he with he
    subst he
    exact fitA_err hj (show (Tr.fitA jn l st []).2 = .error e' by rw [h1])
  · rw [h1] at he
    dsimp only at he
    rcases h2 : Tr.fitB jn s.length st1 s with ⟨st2, e' | t⟩
    · rw [h2] at he
      injection he with he
      subst he
      exact fitB_err hj (show (Tr.fitB jn s.length st1 s).2 = .error e' by rw [h2])
    · rw [h2] at he; cases he
theorem join_err : ∀ {h : Nat} {st : σ} {x y : Tr.Pt (h + 1)} {e : Int}, (Tr.join D.S h st x y).2 = .error e → e ≠ 0
  | 0, st, x, y, e, he => by
    unfold Tr.join at he
    rcases h1 : Tr.opn D.S 0 st x with ⟨s1, e' | a⟩
    · rw [h1] at he
      injection he with he
      subst he
      exact opn_err D (show (Tr.opn D.S 0 st x).2 = .error e' by rw [h1])
    · rw [h1] at he
      dsimp only at he
      rcases h2 : Tr.opn D.S 0 s1 y with ⟨s2, e' | b⟩
      · rw [h2] at he
        injection he with he
        subst he
        exact opn_err D (show (Tr.opn D.S 0 s1 y).2 = .error e' by rw [h2])
      · rw [h2] at he; cases he
  | h + 1, st, x, y, e, he => by
    unfold Tr.join at he
    rcases h1 : Tr.opn D.S (h + 1) st x with ⟨s1, e' | a⟩
    · rw [h1] at he
      injection he with he
      subst he
      exact opn_err D (show (Tr.opn D.S (h + 1) st x).2 = .error e' by rw [h1])
    · rw [h1] at he
      dsimp only at he
      rcases h2 : Tr.opn D.S (h + 1) s1 y with ⟨s2, e' | b⟩
      · rw [h2] at he
        injection he with he
        subst he
        exact opn_err D (show (Tr.opn D.S (h + 1) s1 y).2 = .error e' by rw [h2])
      · rw [h2] at he
        dsimp only at he
        rcases h3 : Tr.fitJ (Tr.join D.S h) s2 (a ++ b) with ⟨s3, e' | l⟩
        · rw [h3] at he
          injection he with he
          subst he
          exact fitJ_err (fun hh => join_err hh) (show (Tr.fitJ (Tr.join D.S h) s2 (a ++ b)).2 = .error e' by rw [h3])
        · rw [h3] at he; cases he
theorem fit_err {h : Nat} {st : σ} {l : List (Tr.Pt (h + 1))} {e : Int} (he : (Tr.fit D.S h st l).2 = .error e) : e ≠ 0 := fitJ_err (fun hh => join_err D hh) he
theorem join_e1 {S : Tr.Sto σ} {h : Nat} {st s1 : σ} {x y : Tr.Pt (h + 1)} {e : Int} (h1 : Tr.opn S h st x = (s1, .error e)) : Tr.join S h st x y = (s1, .error e) := by
  cases h <;> unfold Tr.join <;> rw [h1]
theorem join_e2 {S : Tr.Sto σ} {h : Nat} {st s1 s2 : σ} {x y : Tr.Pt (h + 1)} {a : List (Tr.Pt h)} {e : Int} (h1 : Tr.opn S h st x = (s1, .ok a)) (h2 : Tr.opn S h s1 y = (s2, .error e)) : Tr.join S h st x y = (s2, .error e) := by
  cases h <;> unfold Tr.join <;> rw [h1] <;> dsimp only <;> rw [h2]
theorem join_o {S : Tr.Sto σ} {st s1 s2 : σ} {x y : Tr.Pt 1} {a b : List (Tr.Pt 0)} (h1 : Tr.opn S 0 st x = (s1, .ok a)) (h2 : Tr.opn S 0 s1 y = (s2, .ok b)) : Tr.join S 0 st x y = (s2, .ok (Tr.frs (a ++ b))) := by
  unfold Tr.join; rw [h1]; dsimp only; rw [h2]
theorem join_se {S : Tr.Sto σ} {h : Nat} {st s1 s2 s3 : σ} {x y : Tr.Pt (h + 2)} {a b : List (Tr.Pt (h + 1))} {e : Int} (h1 : Tr.opn S (h + 1) st x = (s1, .ok a)) (h2 : Tr.opn S (h + 1) s1 y = (s2, .ok b)) (h3 : Tr.fit S h s2 (a ++ b) = (s3, .error e)) : Tr.join S (h + 1) st x y = (s3, .error e) := by
  unfold Tr.fit at h3
  unfold Tr.join; rw [h1]; dsimp only; rw [h2]; dsimp only; rw [h3]
theorem join_so {S : Tr.Sto σ} {h : Nat} {st s1 s2 s3 : σ} {x y : Tr.Pt (h + 2)} {a b l : List (Tr.Pt (h + 1))} (h1 : Tr.opn S (h + 1) st x = (s1, .ok a)) (h2 : Tr.opn S (h + 1) s1 y = (s2, .ok b)) (h3 : Tr.fit S h s2 (a ++ b) = (s3, .ok l)) : Tr.join S (h + 1) st x y = (s3, .ok (Tr.frs l)) := by
  unfold Tr.fit at h3
  unfold Tr.join; rw [h1]; dsimp only; rw [h2]; dsimp only; rw [h3]
set_option maxRecDepth 8000 in
set_option maxHeartbeats 8000000 in
theorem joinlast_any {w : World} {X G : Nat → Prop} {st : σ} {B h : Nat} {l : List (Tr.Pt (h + 1))} {x y : Tr.Pt (h + 1)} {v : Value} {cs : List Tr.PC} (hr : D.Rep w X st) (hG : ∀ b, G b → b < w.heap.size) (hp : PQ (fun b => X b ∨ G b) w B (h + 1) (l ++ [x, y]) v cs) (hBw : B ≤ w.heap.size) (wx : Tr.Wf (h + 1) x) (wy : Tr.Wf (h + 1) y) (hw : Tr.wt (h + 1) x + Tr.wt (h + 1) y ≤ 1000000) (hl : l.length ≤ 1000000) (hh : h ≤ 1000000) (HF : ∀ k, h = k + 1 → FitC D k) :
    Calls Try.prog 112 #[D.val, v, .int .i64 (h : Int)] w (JlR D w X G B h l v (Tr.join D.S h st x y).1 (Tr.join D.S h st x y).2) := by
  obtain ⟨i0, hi0, hz0, hs0, hb0'⟩ := part_parts
  obtain ⟨d0, hd0, hd1⟩ := part_row
  have hlen : (l ++ [x, y]).length = l.length + 2 := by rw [List.length_append]; rfl
  have hcl := hp.len
  obtain ⟨k, hk⟩ : ∃ k, l.length = k := ⟨_, rfl⟩
  rw [hk] at hlen hl
  obtain ⟨g, c, rfl⟩ := own_some hp.own (by rw [hlen]; omega)
  rw [hlen] at hp hcl ⊢
  obtain ⟨px, hpx⟩ : ∃ p, cs[k]? = some p := ⟨_, List.getElem?_eq_getElem (by omega)⟩
  obtain ⟨py, hpy⟩ : ∃ p, cs[k + 1]? = some p := ⟨_, List.getElem?_eq_getElem (by omega)⟩
  have gx : (l ++ [x, y])[k]? = some x := by rw [List.getElem?_append_right (by omega), hk, Nat.sub_self]; rfl
  have gy : (l ++ [x, y])[k + 1]? = some y := by rw [List.getElem?_append_right (by omega), hk, Nat.add_sub_cancel_left]; rfl
  have hown : w.ownsRow B 160 14 (.slice (some ⟨g, 0, none⟩) (k + 2) c) (k + 2) (pcs cs) := hlen ▸ hp.own
  have rg1 := own_range hown hpx
  obtain ⟨G', hG'⟩ : ∃ G' : Nat → Prop, G' = fun b => G b ∨ b = g := ⟨_, rfl⟩
  have hgw : g < w.heap.size := (hown.lt g rfl).2
  have hG1 : ∀ b, G' b → b < w.heap.size := fun b hb => by rw [hG'] at hb; exact hb.elim (hG b) fun e => e ▸ hgw
  have fx : PRX (fun b => X b ∨ G' b) w (h + 1) x px := (hp.are.anti fun b hb => by
    rw [hG'] at hb
    rcases hb with hb | hb | hb
    · exact .inl (.inl hb)
    · exact .inl (.inr hb)
    · exact .inr (by rw [hb]; rfl)).mono fun u hu => hu.2 k x px gx hpx
  have fy : PRX (fun b => X b ∨ G' b) w (h + 1) y py := (hp.are.anti fun b hb => by
    rw [hG'] at hb
    rcases hb with hb | hb | hb
    · exact .inl (.inl hb)
    · exact .inl (.inr hb)
    · exact .inr (by rw [hb]; rfl)).mono fun u hu => hu.2 (k + 1) y py gy hpy
  have HC1 := open_any D hr h x px G' hG1 fx (fun b e => by subst e; exact wx)
  have z1 : wrap64 (((k + 2 : Nat) : Int) - 2) = (k : Int) := by simp only [wrap64]; omega
  have z2 : wrap64 (((k + 2 : Nat) : Int) - 1) = ((k + 1 : Nat) : Int) := by simp only [wrap64]; omega
  have z3 : (k : Int) < ((k + 2 : Nat) : Int) := by omega
  have z4 : ((k + 1 : Nat) : Int) < ((k + 2 : Nat) : Int) := by omega
  obtain ⟨n, hn⟩ : ∃ n, k + 2 = n := ⟨_, rfl⟩
  obtain ⟨k1, hk1⟩ : ∃ n, k + 1 = n := ⟨_, rfl⟩
  rw [hn] at z1 z2 z3 z4 hp hown ⊢
  rw [hk1] at z2 z4
  have Hn := Lib.hid hn
  have Hk := Lib.hid hk
  have Hk1 := Lib.hid hk1
  have HkB := Lib.hid hl
  have HP := Lib.hid hp
  have FY := Lib.hid fy
  have HGp := Lib.hid hG'
  have HGl := Lib.hid hG1
  have HpG := Lib.hid hG
  have Hcs := Lib.hid (show cs[k]? = some px ∧ cs[k + 1]? = some py from ⟨hpx, hpy⟩)
  have Hwf := Lib.hid (show Tr.Wf (h + 1) x ∧ Tr.Wf (h + 1) y ∧ Tr.wt (h + 1) x + Tr.wt (h + 1) y ≤ 1000000 from ⟨wx, wy, hw⟩)
  have HBw := Lib.hid hBw
  have Hgw := Lib.hid hgw
  have Hkc := Lib.hid (show k ≤ c from by have := own_len hown; omega)
  rcases h1 : Tr.opn D.S h st x with ⟨s1, er | a⟩
  · rw [join_e1 h1]
    rw [h1] at HC1
    have HC1 := HC1.mono (R' := fun e w' => ∃ X', D.Rep w' X' s1 ∧ Stp w X w' X' ∧ er ≠ 0 ∧ e = .returned (.tuple #[.slice none 0 0, .int .i64 er])) (fun e w' hh => by
      obtain ⟨X', a1, a2, A, n, c, q, rfl, rfl, a3, rfl, rfl, rfl⟩ := hh
      exact ⟨X', a1, a2, a3, rfl⟩)
    dsimp only [pcv] at HC1
    clear hp hcl hpx hpy gx gy hown hG' hgw hG1 fx fy hn hk1 hk hG wx wy hw hl hlen hBw HF hh
    have her := opn_err D (show (Tr.opn D.S h st x).2 = .error er by rw [h1])
    have z5 : ((er : Int) != 0) = true := by simpa using her
    have Her := Lib.hid her
    clear her
    go_enter Try.func112, Try.ntmps112
    go_wp2_with (first
      | ((with_reducible show wpList _ _ _ (⟨some 21, Op.load 160 _, _, _, _, _⟩ :: _) _ _); refine wpList_load_mid rfl 160 _ rfl g (k * 14) rfl [.int .i64 px.k, .int .i64 px.e.k, .int .i64 px.e.p.1, .int .i64 px.e.p.2.1, .int .i64 px.e.p.2.2, .int .i64 px.e.g, .int .i64 px.b.k.1, .int .i64 px.b.k.2.1, .int .i64 px.b.k.2.2, .int .i64 px.b.h, .int .i64 px.b.f, .int .i64 px.b.t, .bool px.fr, .slice px.A px.n px.c] d0 rg1 hd0 hd1 part_size ?_)
      | (go_at_call 103; (with_reducible refine HC1.mono ?_); rintro e w1 ⟨X1, hR1, hS1, -, rfl⟩; (have F1 := Lib.hid (show D.Rep w1 X1 s1 ∧ Stp w X w1 X1 from ⟨hR1, hS1⟩)); clear hR1 hS1))
    go_returns
    exact ⟨X1, F1.out.1, F1.out.2.chg.mono fun b hb => .inl hb, F1.out.2.new, Her.out, rfl⟩
  · have HC1 := HC1
    rw [h1] at HC1
    have HC1 := HC1.mono (R' := fun e w' => ∃ X' A c, D.Rep w' X' s1 ∧ Stp w X w' X' ∧ e = .returned (.tuple #[.slice A a.length c, .int .i64 0]) ∧ PLX (fun b => X' b ∨ G' b) w' h a A c) (fun e w' hh => by
      obtain ⟨X', a1, a2, A, n, c, q, rfl, rfl, rfl, a3⟩ := hh
      exact ⟨X', A, c, a1, a2, rfl, a3⟩)
    dsimp only [pcv] at HC1
    have hlen' : ∀ {u : World}, u.ownsRow B 160 14 (.slice (some ⟨g, 0, none⟩) n c) (l ++ [x, y]).length (pcs cs) → u.ownsRow B 160 14 (.slice (some ⟨g, 0, none⟩) n c) n (pcs cs) := fun hu => by rw [hlen, hn] at hu; exact hu
    have HM := Lib.hid (show ∀ (w1 : World) (X1 : Nat → Prop), D.Rep w1 X1 s1 → Stp w X w1 X1 → w1.rangeAt g (k1 * 14) [.int .i64 py.k, .int .i64 py.e.k, .int .i64 py.e.p.1, .int .i64 py.e.p.2.1, .int .i64 py.e.p.2.2, .int .i64 py.e.g, .int .i64 py.b.k.1, .int .i64 py.b.k.2.1, .int .i64 py.b.k.2.2, .int .i64 py.b.h, .int .i64 py.b.f, .int .i64 py.b.t, .bool py.fr, .slice py.A py.n py.c] ∧ Calls Try.prog 103 #[D.val, .agg #[.int .i64 py.k, .int .i64 py.e.k, .int .i64 py.e.p.1, .int .i64 py.e.p.2.1, .int .i64 py.e.p.2.2, .int .i64 py.e.g, .int .i64 py.b.k.1, .int .i64 py.b.k.2.1, .int .i64 py.b.k.2.2, .int .i64 py.b.h, .int .i64 py.b.f, .int .i64 py.b.t, .bool py.fr, .slice py.A py.n py.c]] w1 (PsR D w1 X1 G' h (Tr.opn D.S h s1 y).1 (Tr.opn D.S h s1 y).2) from fun w1 X1 hR hS =>
      ⟨by rw [← Hk1.out]; exact own_range (hlen' (HP.out.step (hS.with G)).own) Hcs.out.2, open_any D hR h y py G' (fun b hb => Nat.lt_of_lt_of_le (HGl.out b hb) hS.chg.size) (FY.out.step (hS.with G')) (fun b e => by have := Hwf.out.2.1; subst e; exact this)⟩)
    clear hp hcl hpx hpy gx gy hown hG' hgw hG1 fx fy hn hk1 hk hG wx wy hw hl hlen hBw hlen'
    rcases h2 : Tr.opn D.S h s1 y with ⟨s2, er | b⟩
    · rw [join_e2 h1 h2]
      have her := opn_err D (show (Tr.opn D.S h s1 y).2 = .error er by rw [h2])
      have z5 : ((er : Int) != 0) = true := by simpa using her
      have Her := Lib.hid her
      have Hh2 := Lib.hid h2
      clear her h2 h1 HF hh
      go_enter Try.func112, Try.ntmps112
      go_wp2_with (first
        | ((with_reducible show wpList _ _ _ (⟨some 21, Op.load 160 _, _, _, _, _⟩ :: _) _ _); refine wpList_load_mid rfl 160 _ rfl g (k * 14) rfl [.int .i64 px.k, .int .i64 px.e.k, .int .i64 px.e.p.1, .int .i64 px.e.p.2.1, .int .i64 px.e.p.2.2, .int .i64 px.e.g, .int .i64 px.b.k.1, .int .i64 px.b.k.2.1, .int .i64 px.b.k.2.2, .int .i64 px.b.h, .int .i64 px.b.f, .int .i64 px.b.t, .bool px.fr, .slice px.A px.n px.c] d0 rg1 hd0 hd1 part_size ?_)
        | ((with_reducible show wpList _ _ _ (⟨some 34, Op.load 160 _, _, _, _, _⟩ :: _) _ _); refine wpList_load_mid rfl 160 _ rfl g (k1 * 14) rfl [.int .i64 py.k, .int .i64 py.e.k, .int .i64 py.e.p.1, .int .i64 py.e.p.2.1, .int .i64 py.e.p.2.2, .int .i64 py.e.g, .int .i64 py.b.k.1, .int .i64 py.b.k.2.1, .int .i64 py.b.k.2.2, .int .i64 py.b.h, .int .i64 py.b.f, .int .i64 py.b.t, .bool py.fr, .slice py.A py.n py.c] d0 rg2 hd0 hd1 part_size ?_)
        | (go_at_call 103; (first
            | ((with_reducible refine HC1.mono ?_); rintro e w1 ⟨X1, A1, c1, hR1, hS1, rfl, hp1⟩; (obtain ⟨rg2, HC2⟩ := HM.out w1 X1 hR1 hS1); rw [Hh2.out] at HC2; (have HS1 := Lib.hid hS1); clear hR1 hS1 hp1 HC1)
            | ((with_reducible refine HC2.mono ?_); rintro e w2 ⟨X2, hR2, hS2, A2, n2, c2, q2, rfl, rfl, -, rfl, rfl, rfl⟩; (have F2 := Lib.hid (show D.Rep w2 X2 s2 ∧ Stp w X w2 X2 from ⟨hR2, HS1.out.trans hS2⟩)); clear hR2 hS2))))
      go_returns
      exact ⟨X2, F2.out.1, F2.out.2.chg.mono fun b hb => .inl hb, F2.out.2.new, Her.out, rfl⟩
    ·
      have len_a : a.length ≤ 1000000 := by
        obtain ⟨u1, u2⟩ := Tr.opn_wf D.S Hwf.out.1 (show (Tr.opn D.S h st x).2 = .ok a by rw [h1])
        have := u1.len; have := Hwf.out.2.2; omega
      have len_b : b.length ≤ 1000000 := by
        obtain ⟨u1, u2⟩ := Tr.opn_wf D.S Hwf.out.2.1 (show (Tr.opn D.S h s1 y).2 = .ok b by rw [h2])
        have := u1.len; have := Hwf.out.2.2; omega
      obtain ⟨m, hm⟩ : ∃ m, (a ++ b).length = m := ⟨_, rfl⟩
      have Hm := Lib.hid hm
      have HN := Lib.hid (show ∀ (w2 : World) (X2 : Nat → Prop) (A1 A2 : Option Addr) (c1 c2 : Nat), D.Rep w2 X2 s2 → Stp w X w2 X2 → PLX (fun b => X2 b ∨ G' b) w2 h a A1 c1 → PLX (fun b => X2 b ∨ G' b) w2 h b A2 c2 → ∀ W3, w2.alloc (.cells #[.slice A1 a.length c1, .slice A2 b.length c2] 158) = W3 → Calls Try.prog 92 #[.slice (some ⟨w2.heap.size, 0, none⟩) 2 2] W3 fun e w4 => ∃ A c, e = .returned (.slice A m c) ∧ Below w2.heap.size w2 w4 ∧ PLX (fun b => X2 b ∨ G' b) w4 h (a ++ b) A c from fun w2 X2 A1 A2 c1 c2 hR hS p1 p2 W3 hW3 => by
        have hb : Below w2.heap.size w2 W3 := by rw [← hW3]; exact below_alloc1 _ _
        have bk : Blk W3 w2.heap.size 158 #[.slice A1 a.length c1, .slice A2 b.length c2] := by rw [← hW3]; exact Blk.new _ _ _
        refine (concat_any (w := W3) (X := fun b => X2 b ∨ G' b) (fun b hb' => Nat.lt_of_lt_of_le (hb'.elim (fun h => D.lt hR h) fun h => Nat.lt_of_lt_of_le (HGl.out b h) hS.chg.size) hb.size) (p1.below hb) (p2.below hb) len_a len_b (bk.cell 0) (bk.cell 1) bk.lt).mono ?_
        rintro e w4 ⟨hb4, A, c, rfl, hp4⟩
        exact ⟨A, c, by rw [← hm, List.length_append], hb.trans (hb4.mono hb.size), hp4⟩)
      cases h with
      | zero =>
        rw [join_o h1 h2]
        have z5 : decide ((0 : Int) < ((0 : Nat) : Int)) = false := rfl
        have Hh2 := Lib.hid h2
        clear h1 h2 len_a len_b hm 
        go_enter Try.func112, Try.ntmps112
        go_upto_region 13 with (first
          | ((with_reducible show wpList _ _ _ (⟨some 21, Op.load 160 _, _, _, _, _⟩ :: _) _ _); refine wpList_load_mid rfl 160 _ rfl g (k * 14) rfl [.int .i64 px.k, .int .i64 px.e.k, .int .i64 px.e.p.1, .int .i64 px.e.p.2.1, .int .i64 px.e.p.2.2, .int .i64 px.e.g, .int .i64 px.b.k.1, .int .i64 px.b.k.2.1, .int .i64 px.b.k.2.2, .int .i64 px.b.h, .int .i64 px.b.f, .int .i64 px.b.t, .bool px.fr, .slice px.A px.n px.c] d0 rg1 hd0 hd1 part_size ?_)
          | ((with_reducible show wpList _ _ _ (⟨some 34, Op.load 160 _, _, _, _, _⟩ :: _) _ _); refine wpList_load_mid rfl 160 _ rfl g (k1 * 14) rfl [.int .i64 py.k, .int .i64 py.e.k, .int .i64 py.e.p.1, .int .i64 py.e.p.2.1, .int .i64 py.e.p.2.2, .int .i64 py.e.g, .int .i64 py.b.k.1, .int .i64 py.b.k.2.1, .int .i64 py.b.k.2.2, .int .i64 py.b.h, .int .i64 py.b.f, .int .i64 py.b.t, .bool py.fr, .slice py.A py.n py.c] d0 rg2 hd0 hd1 part_size ?_)
          | (go_at_call 92; (with_reducible refine HCC.mono ?_); rintro e w4 ⟨A4, c4, rfl, hb4, hp4⟩; (have F4 := Lib.hid (show D.Rep w4 X2 s2 ∧ Stp w X w4 X2 ∧ PLX (fun b => X2 b ∨ G' b) w4 0 (a ++ b) A4 c4 from ⟨D.below F2.out.1 hb4, F2.out.2.below hb4, hp4⟩)); clear hb4 hp4 HCC)
          | (go_at_call 103; (first
            | ((with_reducible refine HC1.mono ?_); rintro e w1 ⟨X1, A1, c1, hR1, hS1, rfl, hp1⟩; (obtain ⟨rg2, HC2⟩ := HM.out w1 X1 hR1 hS1); rw [Hh2.out] at HC2; (have HS1 := Lib.hid hS1); (have P1 := Lib.hid hp1); clear hR1 hS1 hp1 HC1)
            | ((with_reducible refine HC2.mono ?_); rintro e w2 ⟨X2, hR2, hS2, A2, n2, c2, q2, rfl, rfl, rfl, hp2⟩; (obtain ⟨W3, hW3⟩ : ∃ W, w2.alloc (.cells #[.slice A1 a.length c1, .slice A2 b.length c2] 158) = W := ⟨_, rfl⟩); (have HCC := HN.out w2 X2 A1 A2 c1 c2 hR2 (HS1.out.trans hS2) (P1.out.step (hS2.with G')) hp2 W3 hW3); (have F2 := Lib.hid (show D.Rep w2 X2 s2 ∧ Stp w X w2 X2 from ⟨hR2, HS1.out.trans hS2⟩)); clear hR2 hS2 hp2 HC2))))
        have KA := Lib.hid (fun o : Obj => below_alloc1 w4 o)
        have HFr := fresh_any (F4.out.2.2 w4.drew (Chg.refl _ _).drew)
        obtain ⟨K, hK⟩ : ∃ K, K = Tr.keyP (0 + 1) (Tr.frs (a ++ b)) := ⟨_, rfl⟩
        rw [← hK] at HFr
        have PZ := Lib.hid (show Fast (fun b => X2 b ∨ G' b) w4 fun u => PR u (0 + 1) (Tr.frs (a ++ b)) ⟨K, Tr.z, Tr.bz, true, A4, (a ++ b).length, c4⟩ from F4.out.2.2.mono fun u hu => by rw [hK]; exact PR.fresh hu)
        rw [Hm.out] at HFr PZ
        dsimp only [pcv, Tr.z, Tr.bz] at HFr
        have zz : IntKind.i64.wrap ((n : Int) - 2) = (k : Int) := by have h1 := Hn.out; have h2 := HkB.out; rw [IntKind.wrap_i64]; omega
        have sl := fun W => run_slice_to (P := Try.prog) Try.underlying158 hi0 (some ⟨g, 0, none⟩) n c k Hkc.out W
        have kc : (k : Int) ≤ (c : Int) := by have := Hkc.out; omega
        clear hK
        go_region_held_law (fun _ => True) (trivial) (first
          | (go_at_call 89; (with_reducible refine HFr.mono ?_); rintro e w6 ⟨rfl, hb6⟩; (have B6 := Lib.hid (show ∀ o, Below w4.heap.size w4 (w6.alloc o) from fun o => (undrew hb6).trans ((below_alloc1 w6 o).mono hb6.size))); clear hb6)
          | (refine step_append3 (base := B) _ rfl (.tmp 61) (.tmp 64) _ rfl Try.underlying158 hi0 hz0 hs0 hb0' rfl (by decide) rfl (pq_own Hk.out (jl_own HP.out Hk.out F4.out.2.1 (B6.out _))) (m := 1) (news := pcs [⟨K, Tr.z, Tr.bz, true, A4, m, c4⟩]) rfl rfl (by simp) (Nat.le_refl _) sl_14 (pcs_one _) (by have h2 := HkB.out; unfold maxLen; omega) (by have h2 := HkB.out; omega) (Nat.le_trans HBw.out (Nat.le_trans F4.out.2.1.chg.size (B6.out _).size)) ?_; intro v7 w7 h1 h2 h3; (obtain ⟨A7, c7, rfl⟩ := own_slice h1); (have N7 := Lib.hid (jl_end D HP.out Hk.out HpG.out Hgw.out HGp.out F4.out.1 F4.out.2.1 (B6.out _) PZ.out h1 h2 h3)); clear h1 h2 h3))
        all_goals
          (try simp only [List.getElem_toArray, List.getElem_cons_succ, List.getElem_cons_zero])
          go_wp2_with fail
          go_returns
          exact ⟨X2, N7.out.1, N7.out.2.1, N7.out.2.2.1, A7, c7, _, by rw [Hk.out]; rfl, N7.out.2.2.2.1, N7.out.2.2.2.2⟩
      | succ h =>
        have wfa := Tr.opn_wf D.S Hwf.out.1 (show (Tr.opn D.S (h + 1) st x).2 = .ok a by rw [h1])
        have wfb := Tr.opn_wf D.S Hwf.out.2.1 (show (Tr.opn D.S (h + 1) s1 y).2 = .ok b by rw [h2])
        have HFI := Lib.hid (show ∀ (w4 : World) (X2 : Nat → Prop) (A4 : Option Addr) (c4 : Nat), D.Rep w4 X2 s2 → Stp w X w4 X2 → PLX (fun b => X2 b ∨ G' b) w4 (h + 1) (a ++ b) A4 c4 → Calls Try.prog 99 #[D.val, .slice A4 m c4, .int .i64 (h : Int)] w4 (PsR D w4 X2 G' (h + 1) (Tr.fit D.S h s2 (a ++ b)).1 (Tr.fit D.S h s2 (a ++ b)).2) from fun w4 X2 A4 c4 hR hS hp => by
          have hw := Hwf.out.2.2
          have hs : Tr.wts (a ++ b) ≤ 1000000 := by rw [Tr.wts_app]; omega
          have := HF h rfl hR (fun b hb => Nat.lt_of_lt_of_le (HGl.out b hb) hS.chg.size) hp (fun q hq => (wfa.1.app wfb.1 q hq).1) hs (Nat.le_trans (wfa.1.app wfb.1).len hs)
          rw [hm] at this
          exact this)
        generalize hHI : (((h + 1 : Nat)) : Int) = HI
        have z5 : decide ((0 : Int) < HI) = true := by rw [decide_eq_true_eq]; omega
        have z6 : wrap64 (HI - 1) = (h : Int) := by simp only [wrap64]; omega
        have Hh2 := Lib.hid h2
        rcases h3 : Tr.fit D.S h s2 (a ++ b) with ⟨s3, er | l3⟩
        · rw [join_se h1 h2 h3]
          rw [h3] at HFI
          have her := fit_err D (show (Tr.fit D.S h s2 (a ++ b)).2 = .error er by rw [h3])
          have z7 : ((er : Int) != 0) = true := by simpa using her
          have Her := Lib.hid her
          clear her h1 h2 h3 len_a len_b hm hHI wfa wfb HF hh
          go_enter Try.func112, Try.ntmps112
          go_wp2_with (first
            | ((with_reducible show wpList _ _ _ (⟨some 21, Op.load 160 _, _, _, _, _⟩ :: _) _ _); refine wpList_load_mid rfl 160 _ rfl g (k * 14) rfl [.int .i64 px.k, .int .i64 px.e.k, .int .i64 px.e.p.1, .int .i64 px.e.p.2.1, .int .i64 px.e.p.2.2, .int .i64 px.e.g, .int .i64 px.b.k.1, .int .i64 px.b.k.2.1, .int .i64 px.b.k.2.2, .int .i64 px.b.h, .int .i64 px.b.f, .int .i64 px.b.t, .bool px.fr, .slice px.A px.n px.c] d0 rg1 hd0 hd1 part_size ?_)
            | ((with_reducible show wpList _ _ _ (⟨some 34, Op.load 160 _, _, _, _, _⟩ :: _) _ _); refine wpList_load_mid rfl 160 _ rfl g (k1 * 14) rfl [.int .i64 py.k, .int .i64 py.e.k, .int .i64 py.e.p.1, .int .i64 py.e.p.2.1, .int .i64 py.e.p.2.2, .int .i64 py.e.g, .int .i64 py.b.k.1, .int .i64 py.b.k.2.1, .int .i64 py.b.k.2.2, .int .i64 py.b.h, .int .i64 py.b.f, .int .i64 py.b.t, .bool py.fr, .slice py.A py.n py.c] d0 rg2 hd0 hd1 part_size ?_)
            | (go_at_call 92; (with_reducible refine HCC.mono ?_); rintro e w4 ⟨A4, c4, rfl, hb4, hp4⟩; (have F4 := Lib.hid (show D.Rep w4 X2 s2 ∧ Stp w X w4 X2 ∧ PLX (fun b => X2 b ∨ G' b) w4 (h + 1) (a ++ b) A4 c4 from ⟨D.below F2.out.1 hb4, F2.out.2.below hb4, hp4⟩)); (have HFT := HFI.out w4 X2 A4 c4 F4.out.1 F4.out.2.1 F4.out.2.2); clear hb4 hp4 HCC)
            | (go_at_call 99; ((with_reducible refine HFT.mono ?_); rintro e w5 ⟨X5, hR5, hS5, A5, n5, c5, q5, rfl, rfl, -, rfl, rfl, rfl⟩; (have F5 := Lib.hid (show D.Rep w5 X5 s3 ∧ Stp w X w5 X5 from ⟨hR5, F4.out.2.1.trans hS5⟩)); clear hR5 hS5))
            | (go_at_call 103; (first
              | ((with_reducible refine HC1.mono ?_); rintro e w1 ⟨X1, A1, c1, hR1, hS1, rfl, hp1⟩; (obtain ⟨rg2, HC2⟩ := HM.out w1 X1 hR1 hS1); rw [Hh2.out] at HC2; (have HS1 := Lib.hid hS1); (have P1 := Lib.hid hp1); clear hR1 hS1 hp1 HC1)
              | ((with_reducible refine HC2.mono ?_); rintro e w2 ⟨X2, hR2, hS2, A2, n2, c2, q2, rfl, rfl, rfl, hp2⟩; (obtain ⟨W3, hW3⟩ : ∃ W, w2.alloc (.cells #[.slice A1 a.length c1, .slice A2 b.length c2] 158) = W := ⟨_, rfl⟩); (have HCC := HN.out w2 X2 A1 A2 c1 c2 hR2 (HS1.out.trans hS2) (P1.out.step (hS2.with G')) hp2 W3 hW3); (have F2 := Lib.hid (show D.Rep w2 X2 s2 ∧ Stp w X w2 X2 from ⟨hR2, HS1.out.trans hS2⟩)); clear hR2 hS2 hp2 HC2))))
          go_returns
          exact ⟨X5, F5.out.1, F5.out.2.chg.mono fun b hb => .inl hb, F5.out.2.new, Her.out, rfl⟩
        · rw [join_so h1 h2 h3]
          rw [h3] at HFI
          obtain ⟨m3, hm3⟩ : ∃ m, l3.length = m := ⟨_, rfl⟩
          have Hm3 := Lib.hid hm3
          have few3 : m3 ≤ 1000000 := by
            obtain ⟨u1, u2⟩ := Tr.fit_wf D.S (l := a ++ b) (fun q hq => (wfa.1.app wfb.1 q hq).1) (show (Tr.fit D.S h s2 (a ++ b)).2 = .ok l3 by rw [h3])
            have u3 := u1.len
            have hw := Hwf.out.2.2
            rw [Tr.wts_app] at u2
            omega
          clear h1 h2 h3 len_a len_b hm hHI wfa wfb HF hh few3 hm3
          go_enter Try.func112, Try.ntmps112
          go_upto_region 13 with (first
            | ((with_reducible show wpList _ _ _ (⟨some 21, Op.load 160 _, _, _, _, _⟩ :: _) _ _); refine wpList_load_mid rfl 160 _ rfl g (k * 14) rfl [.int .i64 px.k, .int .i64 px.e.k, .int .i64 px.e.p.1, .int .i64 px.e.p.2.1, .int .i64 px.e.p.2.2, .int .i64 px.e.g, .int .i64 px.b.k.1, .int .i64 px.b.k.2.1, .int .i64 px.b.k.2.2, .int .i64 px.b.h, .int .i64 px.b.f, .int .i64 px.b.t, .bool px.fr, .slice px.A px.n px.c] d0 rg1 hd0 hd1 part_size ?_)
            | ((with_reducible show wpList _ _ _ (⟨some 34, Op.load 160 _, _, _, _, _⟩ :: _) _ _); refine wpList_load_mid rfl 160 _ rfl g (k1 * 14) rfl [.int .i64 py.k, .int .i64 py.e.k, .int .i64 py.e.p.1, .int .i64 py.e.p.2.1, .int .i64 py.e.p.2.2, .int .i64 py.e.g, .int .i64 py.b.k.1, .int .i64 py.b.k.2.1, .int .i64 py.b.k.2.2, .int .i64 py.b.h, .int .i64 py.b.f, .int .i64 py.b.t, .bool py.fr, .slice py.A py.n py.c] d0 rg2 hd0 hd1 part_size ?_)
            | (go_at_call 92; (with_reducible refine HCC.mono ?_); rintro e w4 ⟨A4, c4, rfl, hb4, hp4⟩; (have F4 := Lib.hid (show D.Rep w4 X2 s2 ∧ Stp w X w4 X2 ∧ PLX (fun b => X2 b ∨ G' b) w4 (h + 1) (a ++ b) A4 c4 from ⟨D.below F2.out.1 hb4, F2.out.2.below hb4, hp4⟩)); (have HFT := HFI.out w4 X2 A4 c4 F4.out.1 F4.out.2.1 F4.out.2.2); clear hb4 hp4 HCC)
            | (go_at_call 99; ((with_reducible refine HFT.mono ?_); rintro e w5 ⟨X5, hR5, hS5, A5, n5, c5, q5, rfl, rfl, hn5, hp5⟩; rw [Hm3.out] at hn5; subst hn5; (have F5 := Lib.hid (show D.Rep w5 X5 s3 ∧ Stp w X w5 X5 ∧ PLX (fun b => X5 b ∨ G' b) w5 (h + 1) l3 A5 c5 from ⟨hR5, F4.out.2.1.trans hS5, hp5⟩)); clear hR5 hS5 hp5))
            | (go_at_call 103; (first
              | ((with_reducible refine HC1.mono ?_); rintro e w1 ⟨X1, A1, c1, hR1, hS1, rfl, hp1⟩; (obtain ⟨rg2, HC2⟩ := HM.out w1 X1 hR1 hS1); rw [Hh2.out] at HC2; (have HS1 := Lib.hid hS1); (have P1 := Lib.hid hp1); clear hR1 hS1 hp1 HC1)
              | ((with_reducible refine HC2.mono ?_); rintro e w2 ⟨X2, hR2, hS2, A2, n2, c2, q2, rfl, rfl, rfl, hp2⟩; (obtain ⟨W3, hW3⟩ : ∃ W, w2.alloc (.cells #[.slice A1 a.length c1, .slice A2 b.length c2] 158) = W := ⟨_, rfl⟩); (have HCC := HN.out w2 X2 A1 A2 c1 c2 hR2 (HS1.out.trans hS2) (P1.out.step (hS2.with G')) hp2 W3 hW3); (have F2 := Lib.hid (show D.Rep w2 X2 s2 ∧ Stp w X w2 X2 from ⟨hR2, HS1.out.trans hS2⟩)); clear hR2 hS2 hp2 HC2))))
          have KA := Lib.hid (fun o : Obj => below_alloc1 w5 o)
          have HFr := fresh_any (F5.out.2.2 w5.drew (Chg.refl _ _).drew)
          obtain ⟨K, hK⟩ : ∃ K, K = Tr.keyP (h + 1 + 1) (Tr.frs (l3)) := ⟨_, rfl⟩
          rw [← hK] at HFr
          have PZ := Lib.hid (show Fast (fun b => X5 b ∨ G' b) w5 fun u => PR u (h + 1 + 1) (Tr.frs (l3)) ⟨K, Tr.z, Tr.bz, true, A5, (l3).length, c5⟩ from F5.out.2.2.mono fun u hu => by rw [hK]; exact PR.fresh hu)
          rw [Hm3.out] at HFr PZ
          dsimp only [pcv, Tr.z, Tr.bz] at HFr
          have zz : IntKind.i64.wrap ((n : Int) - 2) = (k : Int) := by have h1 := Hn.out; have h2 := HkB.out; rw [IntKind.wrap_i64]; omega
          have sl := fun W => run_slice_to (P := Try.prog) Try.underlying158 hi0 (some ⟨g, 0, none⟩) n c k Hkc.out W
          have kc : (k : Int) ≤ (c : Int) := by have := Hkc.out; omega
          clear hK
          go_region_held_law (fun _ => True) (trivial) (first
            | (go_at_call 89; (with_reducible refine HFr.mono ?_); rintro e w6 ⟨rfl, hb6⟩; (have B6 := Lib.hid (show ∀ o, Below w5.heap.size w5 (w6.alloc o) from fun o => (undrew hb6).trans ((below_alloc1 w6 o).mono hb6.size))); clear hb6)
            | (refine step_append3 (base := B) _ rfl (.tmp 61) (.tmp 64) _ rfl Try.underlying158 hi0 hz0 hs0 hb0' rfl (by decide) rfl (pq_own Hk.out (jl_own HP.out Hk.out F5.out.2.1 (B6.out _))) (m := 1) (news := pcs [⟨K, Tr.z, Tr.bz, true, A5, n5, c5⟩]) rfl rfl (by simp) (Nat.le_refl _) sl_14 (pcs_one _) (by have h2 := HkB.out; unfold maxLen; omega) (by have h2 := HkB.out; omega) (Nat.le_trans HBw.out (Nat.le_trans F5.out.2.1.chg.size (B6.out _).size)) ?_; intro v7 w7 h1 h2 h3; (obtain ⟨A7, c7, rfl⟩ := own_slice h1); (have N7 := Lib.hid (jl_end D HP.out Hk.out HpG.out Hgw.out HGp.out F5.out.1 F5.out.2.1 (B6.out _) PZ.out h1 h2 h3)); clear h1 h2 h3))
          all_goals
            (try simp only [List.getElem_toArray, List.getElem_cons_succ, List.getElem_cons_zero])
            go_wp2_with fail
            go_returns
            exact ⟨X5, N7.out.1, N7.out.2.1, N7.out.2.2.1, A7, c7, _, by rw [Hk.out]; rfl, N7.out.2.2.2.1, N7.out.2.2.2.2⟩
end
end Go.Proofs.Ytlcchefiicalpaa
