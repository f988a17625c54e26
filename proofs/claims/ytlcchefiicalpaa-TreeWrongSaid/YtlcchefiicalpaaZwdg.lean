/- What a walk, a change answer at a store that brings anything: the root stands right, or an error. How an argument that is a slice of structures reads, each field a single cell. An argument that is a node of the document's. What TreeWrong wants: a slice of nodes as an argument; a node more in the memory's row. -/
import Derived.Test.YtlcchefiicalpaaZwa
import Derived.Test.YtlcchefiicalpaaZwb
import Derived.Test.YtlcchefiicalpaaZwbi
import Derived.Test.YtlcchefiicalpaaZwde
import Derived.Test.YtlcchefiicalpaaZwdf
import Derived.ChangeArms
import Derived.Deep.Slices
namespace Go.Proofs.Ytlcchefiicalpaa
open Go.RowKit
namespace Tr
section
variable {σ : Type} {S : Sto σ}
theorem load_h {st : σ} {b : Br} {s : σ} {n : Nd.N} (h : load S st b = (s, .ok n)) : 0 ≤ b.h ∧ b.h < 6 := by
  unfold load at h
  rcases hl : S.ld st b.k with ⟨st', e | n'⟩
  · rw [hl] at h; injection h with _ h; cases h
  · rw [hl] at h
    dsimp only at h
    injection h with _ h
    split at h
    · rename_i hf
      have h1 := hf.1.h0
      have h2 := hf.1.h6
      have h3 := hf.2.1
      omega
    · cases h
theorem walk_h {α : Type} (g : Br → Nd.N → List α) {m : Nat} {st : σ} {b : Br} {r : List α} (h : (walk S g m st b).2 = .ok r) : 0 ≤ b.h ∧ b.h < 6 := by
  cases m with
  | zero =>
    unfold walk at h
    rcases hl : load S st b with ⟨st', e | n⟩
    · rw [hl] at h; cases h
    · exact load_h hl
  | succ m =>
    unfold walk at h
    rcases hl : load S st b with ⟨st', e | n⟩
    · rw [hl] at h; cases h
    · exact load_h hl
theorem edited_h {m : Nat} {st s2 : σ} {b : Br} {eds : List Ed} {x : List (Pt m) × Bool} (h : edited S m st b eds = (s2, .ok x)) : 0 ≤ b.h ∧ b.h < 6 := by
  cases m with
  | zero =>
    unfold edited at h
    rcases hl : load S st b with ⟨st', e | n⟩
    · rw [hl] at h; injection h with _ h; cases h
    · exact load_h hl
  | succ m =>
    unfold edited at h
    rcases hl : load S st b with ⟨st', e | n⟩
    · rw [hl] at h; injection h with _ h; cases h
    · exact load_h hl
theorem load_inv {P : σ → Prop} (hP : ∀ st k, P st → P (S.ld st k).1) {st : σ} {b : Br} (h : P st) : P (load S st b).1 := by
  have := hP st b.k h
  unfold load
  rcases hl : S.ld st b.k with ⟨st', e | n'⟩
  · rw [hl] at this; exact this
  · rw [hl] at this; exact this
theorem kids_inv {α : Type} {P : σ → Prop} {f : σ → Br → Res σ (List α)} (hf : ∀ st b, P st → P (f st b).1) : ∀ {l : List Br} {st : σ}, P st → P (walkKids f l st).1
  | [], _, h => h
  | b :: l, st, h => by
    have h1 := hf st b h
    unfold walkKids
    rcases hl : f st b with ⟨st', e | n⟩
    · rw [hl] at h1; exact h1
    · rw [hl] at h1
      have h2 := kids_inv hf (l := l) h1
      dsimp only
      rcases hl2 : walkKids f l st' with ⟨st'', e | n2⟩
      · rw [hl2] at h2; exact h2
      · rw [hl2] at h2; exact h2
theorem walk_inv {α : Type} {P : σ → Prop} (hP : ∀ st k, P st → P (S.ld st k).1) (g : Br → Nd.N → List α) : ∀ {m : Nat} {st : σ} {b : Br}, P st → P (walk S g m st b).1
  | 0, st, b, h => by
    have h1 := load_inv hP (b := b) h
    unfold walk
    rcases hl : load S st b with ⟨st', e | n⟩
    · rw [hl] at h1; exact h1
    · rw [hl] at h1; exact h1
  | m + 1, st, b, h => by
    have h1 := load_inv hP (b := b) h
    unfold walk
    rcases hl : load S st b with ⟨st', e | n⟩
    · rw [hl] at h1; exact h1
    · rw [hl] at h1
      have h2 := kids_inv (f := walk S g m) (fun st b h => walk_inv hP g h) (l := kidsB b n) h1
      dsimp only
      rcases hl2 : walkKids (walk S g m) (kidsB b n) st' with ⟨st'', e | n2⟩
      · rw [hl2] at h2; exact h2
      · rw [hl2] at h2; exact h2
end
theorem mem_inv {L : List Nd.N} : ∀ (st : MSt) (k : Nd.T3), (st.L = L ∧ st.bl = 0) → ((mem.ld st k).1.L = L ∧ (mem.ld st k).1.bl = 0) := fun _ _ h => h
/-- A walk that ends without an error: the root stands right; and where it stands right, it ends so. -/
theorem walk_iff {α : Type} (g : Br → Nd.N → List α) {st : MSt} {k : Nd.T3} {h : Int} (hb : st.bl = 0) : (∃ r, (walk mem g h.toNat st (trunk k h)).2 = .ok r) ↔ RightP st.L k.1 h 0 512 := by
  constructor
  · rintro ⟨r, e⟩
    have h1 := walk_h g e
    have h1 : 0 ≤ h ∧ h < 6 := h1
    exact ⟨h1.1, h1.2, (walk_good mem_brings g (b := trunk k h) rfl e).2⟩
  · intro hr
    have hn : h = ((h.toNat : Nat) : Int) := (Int.toNat_of_nonneg hr.1).symm
    exact ⟨_, (walk_all mem_brings mem_able g (st := st) (b := trunk k h) hb hn hr.2.2).1⟩
theorem all_right {st : MSt} {k : Nd.T3} {h : Int} (hb : st.bl = 0) (hr : RightP st.L k.1 h 0 512) : (walk mem allG h.toNat st (trunk k h)).2 = .ok (ent st.L h.toNat k.1) := by
  have hn : h = ((h.toNat : Nat) : Int) := (Int.toNat_of_nonneg hr.1).symm
  have h1 := (walk_all mem_brings mem_able allG (st := st) (b := trunk k h) hb hn hr.2.2).1
  rw [gath_all (M := st.L) (b := trunk k h) hr.2.2] at h1
  exact h1
end Tr
/-- All, at any store. -/
def AwO (p : Nat) (w : World) (X : Nat → Prop) (st : Tr.MSt) (k : Nd.T3) (h : Int) (e : Ending) (w' : World) : Prop := ∃ X' st' er A n c, e = .returned (.tuple #[.slice A n c, .int .i64 er]) ∧ MRep p w' X' st' ∧ Stp w X w' X' ∧ st'.L = st.L ∧ st'.bl = 0 ∧ (Tr.RightP st.L k.1 h 0 512 ∧ er = 0 ∧ n = (Tr.ent st.L h.toNat k.1).length ∧ n ≤ 300000 ∧ (Fast X' w' fun u => SlC u u.heap.size A c n (evs (Tr.ent st.L h.toNat k.1))) ∨ ¬ Tr.RightP st.L k.1 h 0 512 ∧ er ≠ 0 ∧ n = 0)
theorem tall_w {p : Nat} {w : World} {X : Nat → Prop} {st : Tr.MSt} {k : Nd.T3} {h : Int} (hr : MRep p w X st) (hb : st.bl = 0) (hk : Tr.KR k) : Calls Try.prog 35 #[memV p, Tr.rootV k h] w (AwO p w X st k h) := by
  refine (all_any (memI p) hr hk).mono fun e w' he => ?_
  have hi := Tr.walk_inv (S := Tr.mem) (P := fun s => s.L = st.L ∧ s.bl = 0) Tr.mem_inv Tr.allG (m := h.toNat) (st := st) (b := Tr.trunk k h) ⟨rfl, hb⟩
  have e0 : Tr.walk (memI p).S Tr.allG h.toNat st (Tr.trunk k h) = Tr.walk Tr.mem Tr.allG h.toNat st (Tr.trunk k h) := rfl
  rw [e0] at he
  by_cases hR : Tr.RightP st.L k.1 h 0 512
  · have h2 := Tr.all_right (k := k) (h := h) hb hR
    rcases hw : Tr.walk Tr.mem Tr.allG h.toNat st (Tr.trunk k h) with ⟨s', r⟩
    rw [hw] at h2 he hi
    dsimp only at h2
    subst h2
    obtain ⟨X', e1, e2, A, c, e3, e4⟩ := he
    have hlen : (Tr.ent st.L h.toNat k.1).length ≤ 300000 := Nat.le_trans (walk_len (memI p) (allV 0) (h := h.toNat) (st := st) (b := Tr.trunk k h) (by show (Tr.walk Tr.mem Tr.allG h.toNat st (Tr.trunk k h)).2 = _; rw [hw])) (vk5 (by have := hR.1; have := hR.2.1; omega))
    exact ⟨X', s', 0, A, _, c, e3, e1, e2, hi.1, hi.2, .inl ⟨hR, rfl, rfl, hlen, e4⟩⟩
  · rcases hw : Tr.walk Tr.mem Tr.allG h.toNat st (Tr.trunk k h) with ⟨s', er | r⟩
    · rw [hw] at he hi
      obtain ⟨X', e1, e2, hne, e3⟩ := he
      exact ⟨X', s', er, none, 0, 0, e3, e1, e2, hi.1, hi.2, .inr ⟨hR, hne, rfl⟩⟩
    · exact (hR ((Tr.walk_iff Tr.allG hb).1 ⟨r, by rw [hw]⟩)).elim
/-- Nodes, at any store. -/
def NwO (p : Nat) (w : World) (X : Nat → Prop) (st : Tr.MSt) (k : Nd.T3) (h : Int) (e : Ending) (w' : World) : Prop := ∃ X' st' er A n c, e = .returned (.tuple #[.slice A n c, .int .i64 er]) ∧ MRep p w' X' st' ∧ Stp w X w' X' ∧ st'.L = st.L ∧ st'.bl = 0 ∧ (Tr.RightP st.L k.1 h 0 512 ∧ er = 0 ∨ ¬ Tr.RightP st.L k.1 h 0 512 ∧ er ≠ 0 ∧ n = 0)
theorem tnodes_w {p : Nat} {w : World} {X : Nat → Prop} {st : Tr.MSt} {k : Nd.T3} {h : Int} (hr : MRep p w X st) (hb : st.bl = 0) (hk : Tr.KR k) : Calls Try.prog 41 #[memV p, Tr.rootV k h] w (NwO p w X st k h) := by
  refine (nodes_any (memI p) hr hk).mono fun e w' he => ?_
  have hi := Tr.walk_inv (S := Tr.mem) (P := fun s => s.L = st.L ∧ s.bl = 0) Tr.mem_inv Tr.nodesG (m := h.toNat) (st := st) (b := Tr.trunk k h) ⟨rfl, hb⟩
  have e0 : Tr.walk (memI p).S Tr.nodesG h.toNat st (Tr.trunk k h) = Tr.walk Tr.mem Tr.nodesG h.toNat st (Tr.trunk k h) := rfl
  rw [e0] at he
  have hiff := Tr.walk_iff Tr.nodesG (st := st) (k := k) (h := h) hb
  rcases hw : Tr.walk Tr.mem Tr.nodesG h.toNat st (Tr.trunk k h) with ⟨s', er | r⟩
  · rw [hw] at he hi hiff
    obtain ⟨X', e1, e2, hne, e3⟩ := he
    exact ⟨X', s', er, none, 0, 0, e3, e1, e2, hi.1, hi.2, .inr ⟨fun hR => (by obtain ⟨r, e⟩ := hiff.2 hR; cases e), hne, rfl⟩⟩
  · rw [hw] at he hi hiff
    obtain ⟨X', e1, e2, A, c, e3, e4⟩ := he
    exact ⟨X', s', 0, A, _, c, e3, e1, e2, hi.1, hi.2, .inl ⟨hiff.1 ⟨r, rfl⟩, rfl⟩⟩
/-- Get and Cut, at any store. -/
theorem tget_w {p : Nat} {w : World} {X : Nat → Prop} {st : Tr.MSt} {k : Nd.T3} {h key : Int} (hr : MRep p w X st) (hk : Tr.KR k) : Calls Try.prog 37 #[memV p, Tr.rootV k h, .int .i64 key] w fun e w' => ∃ X' st' x b er, e = .returned (.tuple #[ev x, .bool b, .int .i64 er]) ∧ MRep p w' X' st' ∧ Stp w X w' X' ∧ (b = true → er = 0) := by
  refine (get_any (memI p) (key := key) hr hk).mono fun e w' he => ?_
  by_cases h0 : 0 ≤ key ∧ key < 512
  · have he := he.1 h0
    rcases hw : Tr.getP (memI p).S h.toNat st (Tr.trunk k h) key with ⟨s', er | o⟩
    · rw [hw] at he
      obtain ⟨X', e1, e2, -, e3⟩ := he
      exact ⟨X', s', Tr.z, false, er, e3, e1, e2, fun h => by cases h⟩
    · rw [hw] at he
      obtain ⟨X', e1, e2, e3⟩ := he
      cases o with
      | none => exact ⟨X', s', Tr.z, false, 0, e3, e1, e2, fun _ => rfl⟩
      | some x => exact ⟨X', s', x, true, 0, e3, e1, e2, fun _ => rfl⟩
  · obtain ⟨X', e1, e2, -, e3⟩ := he.2 h0
    exact ⟨X', st, Tr.z, false, 1, e3, e1, e2, fun h => by cases h⟩
theorem tcut_w {p : Nat} {w : World} {X : Nat → Prop} {st : Tr.MSt} {k : Nd.T3} {h : Int} {ks : List Int} {A : Option Addr} {c n : Nat} (hr : MRep p w X st) (hk : Tr.KR k) (hl : SlC w w.heap.size A c n (ivs ks)) (hn : ks.length = n) (few : n ≤ 100000) : Calls Try.prog 40 #[memV p, Tr.rootV k h, .slice A n c] w fun e w' => ∃ X' st' k' h' er, e = .returned (.tuple #[Tr.rootV k' h', .int .i64 er]) ∧ MRep p w' X' st' ∧ Stp w X w' X' := by
  refine (cut_any (memI p) inorder_any hr hl hn few hk fun _ s2 l he => ?_).mono fun e w' he => ?_
  · have h6 := Tr.edited_h he
    have h6 : 0 ≤ h ∧ h < 6 := h6
    exact Tr.cut_plok (memI p).S (fun x hx => by
      unfold Tr.edCut at hx
      obtain ⟨y, -, rfl⟩ := List.mem_map.1 hx
      rfl) (by omega) s2 l he
  · rcases hw : Tr.cutP (memI p).S st k h ks with ⟨s', er | ⟨k', h'⟩⟩
    · rw [hw] at he
      obtain ⟨X', e1, e2, -, k', h', e3⟩ := he
      exact ⟨X', s', k', h', er, e3, e1, e2⟩
    · rw [hw] at he
      obtain ⟨X', e1, e2, e3⟩ := he
      exact ⟨X', s', k', h', 0, e3, e1, e2⟩
end Go.Proofs.Ytlcchefiicalpaa
namespace Go.Proofs.Ytlcchefiicalpaa
open Go.ChangeShapes Go.WideShapes Go.ChangeAt Go.RowKit
/-- Are the fields cells, one behind the other? -/
def flatB (P : Program) (fs : Array Field) : Bool := (List.range fs.size).all fun j => match fs[j]? with
  | some f => f.offset == j && P.cellsOf f.type == 1
  | none => false
theorem flat_of {P : Program} {fs : Array Field} (h : flatB P fs = true) {j : Nat} {f : Field} (hj : fs[j]? = some f) : f.offset = j ∧ P.cellsOf f.type = 1 := by
  have hlt : j < fs.size := by
    rcases Nat.lt_or_ge j fs.size with h | h
    · exact h
    · rw [Array.getElem?_eq_none h] at hj; cases hj
  have := List.all_eq_true.1 h j (List.mem_range.2 hlt)
  rw [hj] at this
  simpa using this
section
variable {H : Type} {enc : TypeId × Value → H} {P : Program} {w : World} {base : Nat}
/-- A slice of structures whose fields are single cells. -/
theorem wide_trod {t e : TypeId} {fs : Array Field} {fuel : Nat} {cs : List Value} {x : DataW H × List MemPlace} (ht : P.underlying t = some (.slice e)) (he : P.underlying e = some (.struct fs)) (hflat : flatB P fs = true) (hC : P.cellsOf e = fs.size)
    (hf : DataW.trod enc P w base (fun _ => true) true fuel t cs = some x) (hlt : ∀ y ∈ x.2, y.block < w.heap.size) :
    cs = [.slice none 0 0] ∨ ∃ (a : Addr) (len cap : Nat), cs = [.slice (some a) len cap] ∧ len ≤ cap ∧ cap ≤ maxLen ∧ (0 < cap * fs.size → a.block < w.heap.size) ∧
      ∀ i, i < cap → ∃ vs : List Value, vs.length = fs.size ∧ (∀ j, j < fs.size → w.cell? ((a.add (i * fs.size)).add j) = vs[j]?) ∧
        ∀ (j : Nat) (f : Field), fs[j]? = some f → ∃ (v : Value) (y : DataW H × List MemPlace) (n : Nat), vs[j]? = some v ∧ DataW.trod enc P w base (fun _ => true) true n f.type [v] = some y ∧ ∀ z ∈ y.2, z.block < w.heap.size := by
  rcases Deep.open_slice ht hf with ⟨hcs, _⟩ | ⟨a, len, cap, m, n, D, Pl, hcs, _, hl, hm, hmm, hx, hi⟩
  · exact .inl hcs
  right
  simp only [if_true] at hmm
  subst hmm
  rw [hx] at hlt
  refine ⟨a, len, m, hcs, hl, hm, fun hpos => ?_, fun i him => ?_⟩
  · rw [hC] at hlt
    have := hlt (.cell a.block (a.off + 0)) (List.mem_append_left _ (by simp only [MemPlace.row, List.mem_map, List.mem_range]; exact ⟨0, hpos, rfl⟩))
    exact this
  · obtain ⟨cs', hc, ht'⟩ := hi i him
    rw [hC] at hc
    obtain ⟨_, hcl, hat⟩ := World.cells?_some hc
    obtain ⟨ys, n', _, hy, _, hyl, hfd⟩ := DataW.trod_struct he ht'
    refine ⟨cs', hcl, hat, fun j f hj => ?_⟩
    obtain ⟨ho, hc1⟩ := flat_of hflat hj
    have hjl : j < fs.size := by
      rcases Nat.lt_or_ge j fs.size with h | h
      · exact h
      · rw [Array.getElem?_eq_none h] at hj; cases hj
    have hcj : j < cs'.length := by omega
    have h1 := hfd j f hj
    rw [ho, hc1, List.drop_eq_getElem_cons hcj, List.take_succ_cons, List.take_zero] at h1
    rw [List.getElem?_eq_getElem (show j < ys.length by omega)] at h1
    refine ⟨cs'[j], ys[j]'(by omega), n', List.getElem?_eq_getElem hcj, h1, fun z hz => hlt z (List.mem_append_right _ ?_)⟩
    simp only [Prod.mk.injEq] at hy
    rw [List.mem_flatMap]
    exact ⟨i, List.mem_range.2 him, by rw [hy.2]; exact List.mem_flatMap.2 ⟨_, List.getElem_mem _, hz⟩⟩
end
end Go.Proofs.Ytlcchefiicalpaa
namespace Go.Proofs.Ytlcchefiicalpaa
open Go.ChangeShapes Go.WideShapes Go.ChangeAt Go.RowKit
section
variable {H : Type} {enc : TypeId × Value → H} {P : Program} {w : World} {base : Nat}
theorem tcs_cell {l : List Nd.T3} {k : Nat} (h : k < l.length * 3) : (tcs l)[k]? = some (.int .i64 (if k % 3 = 0 then (Nd.t3 l (k / 3)).1 else if k % 3 = 1 then (Nd.t3 l (k / 3)).2.1 else (Nd.t3 l (k / 3)).2.2)) := by
  obtain ⟨e0, e1, e2⟩ := tcs_at (l := l) (k := k / 3) (by omega)
  have hk : k = k / 3 * 3 ∨ k = k / 3 * 3 + 1 ∨ k = k / 3 * 3 + 2 := by omega
  rcases hk with h | h | h
  · rw [if_pos (by omega), ← e0, ← h]
  · rw [if_neg (by omega), if_pos (by omega), ← e1, ← h]
  · rw [if_neg (by omega), if_neg (by omega), ← e2, ← h]
theorem threes_trod {t e i0 : TypeId} {fs : Array Field} {f0 f1 f2 : Field} (ht : P.underlying t = some (.slice e)) (he : P.underlying e = some (.struct fs)) (hfs : fs = #[f0, f1, f2]) (h0 : f0.type = i0) (h1 : f1.type = i0) (h2 : f2.type = i0) (hi0 : P.underlying i0 = some (.int .i64))
    (hflat : flatB P fs = true) (hC : P.cellsOf e = fs.size) {fuel : Nat} {cs : List Value} {x : DataW H × List MemPlace} (hf : DataW.trod enc P w base (fun _ => true) true fuel t cs = some x) (hlt : ∀ y ∈ x.2, y.block < w.heap.size) :
    ∃ (A : Option Addr) (cap : Nat) (l : List Nd.T3), cs = [.slice A l.length cap] ∧ SlC w w.heap.size A cap l.length (tcs l) := by
  have hsz : fs.size = 3 := by rw [hfs]; rfl
  rcases wide_trod ht he hflat hC hf hlt with hcs | ⟨a, len, cap, hcs, hl, hm, hb, hi⟩
  · exact ⟨none, 0, [], hcs, SlC.none_ _ _⟩
  rw [hsz] at hb
  have each : ∀ i, i < len → ∃ y : Nd.T3, w.cell? ((a.add (i * 3)).add 0) = some (.int .i64 y.1) ∧ w.cell? ((a.add (i * 3)).add 1) = some (.int .i64 y.2.1) ∧ w.cell? ((a.add (i * 3)).add 2) = some (.int .i64 y.2.2) := by
    intro i hil
    obtain ⟨vs, _, hc, hfd⟩ := hi i (by omega)
    rw [hsz] at hc
    obtain ⟨v0, y0, n0, e0, t0, _⟩ := hfd 0 f0 (by rw [hfs]; rfl)
    obtain ⟨v1, y1, n1, e1, t1, _⟩ := hfd 1 f1 (by rw [hfs]; rfl)
    obtain ⟨v2, y2, n2, e2, t2, _⟩ := hfd 2 f2 (by rw [hfs]; rfl)
    rw [h0] at t0
    rw [h1] at t1
    rw [h2] at t2
    obtain ⟨z0, hz0, _, _⟩ := DataW.trod_int hi0 t0
    obtain ⟨z1, hz1, _, _⟩ := DataW.trod_int hi0 t1
    obtain ⟨z2, hz2, _, _⟩ := DataW.trod_int hi0 t2
    injection hz0 with hz0
    injection hz1 with hz1
    injection hz2 with hz2
    exact ⟨(z0, z1, z2), (hc 0 (by decide)).trans (by rw [e0, hz0]), (hc 1 (by decide)).trans (by rw [e1, hz1]), (hc 2 (by decide)).trans (by rw [e2, hz2])⟩
  obtain ⟨l, hll, hp⟩ := list_of_fn _ len each
  refine ⟨some a, cap, l, by rw [hcs, hll], by omega, (fun h => by cases h), ?_⟩
  by_cases hz : len = 0
  · left
    rw [hz] at hll
    rw [List.eq_nil_of_length_eq_zero hll]
    rfl
  obtain ⟨ab, ao, spot⟩ := a
  have hspot : spot = none := by simpa [Addr.add] using World.cell?_spot (hp 0 (by omega)).1
  subst hspot
  refine .inr ⟨ab, ao, rfl, hb (Nat.mul_pos (by omega) (by decide)), fun k hk => ?_⟩
  rw [← List.getElem?_eq_getElem hk]
  rw [tcs_len, hll] at hk
  have hkl : k / 3 < l.length := by omega
  obtain ⟨c0, c1, c2⟩ := hp (k / 3) hkl
  rw [Addr.add_lit, Addr.add_lit] at c0 c1 c2
  rw [tcs_cell (by omega)]
  have hg : Nd.t3 l (k / 3) = l[k / 3] := by unfold Nd.t3; rw [List.getD_eq_getElem?_getD, List.getElem?_eq_getElem hkl]; rfl
  rw [hg]
  have hk3 : k % 3 = 0 ∨ k % 3 = 1 ∨ k % 3 = 2 := by omega
  rcases hk3 with h | h | h
  · rw [if_pos h, ← c0, show ao + k = ao + k / 3 * 3 + 0 by omega]
  · rw [if_neg (by omega), if_pos h, ← c1, show ao + k = ao + k / 3 * 3 + 1 by omega]
  · rw [if_neg (by omega), if_neg (by omega), ← c2, show ao + k = ao + k / 3 * 3 + 2 by omega]
end
end Go.Proofs.Ytlcchefiicalpaa
namespace Go.Proofs.Ytlcchefiicalpaa
open Go.ChangeShapes Go.WideShapes Go.ChangeAt Go.RowKit
theorem MemR.push {p m : Nat} {A A' : Option Addr} {c c' : Nat} {vs : List (Array Value)} {w W2 w4 w5 w7 w8 W9 t : World} {X : Nat → Prop} {st : Tr.MSt} {s1 : Int} {b1 : Nat} {n : Nd.N} {z0 z1 z2 z3 z4 : Value} (hml : m = st.L.length)
    (hM : MemR p A c vs W2 X { st with sv := s1 }) (C2 : Chg X w W2) (hX : ∀ b, X b → b < w.heap.size) (hb1 : t.heap.size ≤ b1) (b4 : Below W2.heap.size W2 w4) (b5 : Below w4.heap.size w4 w5) (hN : NdI w4.heap.size w5 (.agg #[z0, z1, z2, z3, z4]) n) (hF : FewOk n)
    (hw7 : Below w5.heap.size w5 w7) (hg : w7.grownBy w8 (Value.slice A m c).ownBlock) (ho : w8.ownsRow 0 35 5 (.slice A' (m + 1) c') (m + 1) (ncs vs ++ [z0, z1, z2, z3, z4]))
    (hv : (Value.slice A' (m + 1) c').ownBlock = (Value.slice A m c).ownBlock ∨ (Value.slice A' (m + 1) c').ownBlock = some w7.heap.size)
    (hW9 : w8.setCell ⟨p, 0, none⟩ (.slice A' (m + 1) c') = W9) (hc : Chg (fun b => b = b1) W9 t) (few : m ≤ 8000) :
    MRep p t (fun b => X b ∨ (w.heap.size ≤ b ∧ b < t.heap.size)) { st with sv := s1, L := st.L ++ [n] } ∧ Stp w X t (fun b => X b ∨ (w.heap.size ≤ b ∧ b < t.heap.size)) := by
  subst hml
  subst hW9
  have hs45 := Nat.le_trans b4.size b5.size
  have hs7 := Nat.le_trans hs45 hw7.size
  have hs8 := Nat.le_trans hs7 hg.size
  have hs57 := hw7.size
  have hs78 := hg.size
  have hs24 := b4.size
  have hs45' := b5.size
  have hsz : (w8.setCell ⟨p, 0, none⟩ (.slice A' (st.L.length + 1) c')).heap.size = w8.heap.size := by simp [World.setCell]
  have hst : w8.heap.size ≤ t.heap.size := by have := hc.size; rw [hsz] at this; exact this
  have hwW := C2.size
  have hB27 : Below W2.heap.size W2 w7 := (b4.trans (b5.mono b4.size)).trans (hw7.mono hs45)
  have hXW : ∀ b, X b → b < W2.heap.size := hM.lt
  -- what stays: older blocks but p and the old row
  have hk : ∀ b, b < W2.heap.size → b ≠ p → b ≠ b1 → ¬ (Value.slice A st.L.length c).ownBlock = some b → t.heap[b]? = W2.heap[b]? := fun b hb h1 h2 h3 => by
    rw [hc.block b (by rw [hsz]; omega) h2, Below.heap_setCell _ _ _ _ h1, hg.block b (by omega) (fun e => h3 e.symm), hB27.block b hb]
  have hk5 : ∀ b, w4.heap.size ≤ b → b < w5.heap.size → t.heap[b]? = w5.heap[b]? := fun b hb hb' => by
    have h1 : b ≠ p := fun e => by have := hXW p hM.hp; have := b4.size; omega
    have h2 : b ≠ b1 := fun e => by have := b4.size; omega
    have h3 : ¬ (Value.slice A st.L.length c).ownBlock = some b := fun e => by have := hXW b (hM.hr b e).1; have := b4.size; omega
    have hl7 : b < w7.heap.size := Nat.lt_of_lt_of_le hb' hw7.size
    rw [hc.block b (by rw [hsz]; have := hg.size; omega) h2, Below.heap_setCell _ _ _ _ h1, hg.block b hl7 (fun e => h3 e.symm), hw7.block b hb']
  have hpl : p < W2.heap.size := hXW p hM.hp
  have hp1 : p ≠ b1 := fun e => by have := hX p hM.hp; omega
  have hpr : ∀ b, (Value.slice A st.L.length c).ownBlock = some b → b ≠ p := fun b e => (hM.hr b e).2
  have hnew : ∀ b, (Value.slice A' (st.L.length + 1) c').ownBlock = some b → (X b ∨ w7.heap.size ≤ b) ∧ b ≠ p ∧ b ≠ b1 ∧ b < w8.heap.size := fun b e => by
    have hlt := (ho.lt b e).2
    rcases hv with hv | hv
    · have e' := hv.symm.trans e
      exact ⟨.inl (hM.hr b e').1, (hM.hr b e').2, fun h => by have := hX b (hM.hr b e').1; omega, hlt⟩
    · have e' := hv.symm.trans e
      injection e' with e'
      subst e'
      exact ⟨.inr (Nat.le_refl _), by omega, by omega, hlt⟩
  refine ⟨⟨A', c', vs ++ [#[z0, z1, z2, z3, z4]], ?_⟩, ?_⟩
  · refine ⟨?_, ?_, .inl hM.hp, fun b e => ?_, ?_, ?_, fun i v m hvi hmi => ?_, fun b hb => ?_, ?_⟩
    · have h1 : Blk w8 p 64 #[.slice A st.L.length c, .int .i64 st.ld, .int .i64 s1, .int .i64 st.bl, .int .i64 st.bs] := hM.blk.keep (by rw [hg.block p (by omega) (fun e => hpr p e.symm rfl), hB27.block p hpl])
      have h2 := (h1.set_ 0 (.slice A' (st.L.length + 1) c')).keep (hc.block p (by rw [hsz]; omega) hp1)
      show Blk t p 64 #[.slice A' (st.L ++ [n]).length c', .int .i64 st.ld, .int .i64 s1, .int .i64 st.bl, .int .i64 st.bs]
      rw [List.length_append, List.length_singleton]
      exact h2
    · show t.ownsRow 0 35 5 (.slice A' (st.L ++ [n]).length c') (st.L ++ [n]).length (ncs (vs ++ [#[z0, z1, z2, z3, z4]]))
      rw [List.length_append, List.length_singleton, ncs_app]
      show t.ownsRow 0 35 5 (.slice A' (st.L.length + 1) c') (st.L.length + 1) (ncs vs ++ [z0, z1, z2, z3, z4])
      refine own_keep ho fun b e _ => ?_
      obtain ⟨-, h2, h3, h4⟩ := hnew b e
      rw [hc.block b (by rw [hsz]; exact h4) h3, Below.heap_setCell _ _ _ _ h2]
    · have e : (Value.slice A' (st.L.length + 1) c').ownBlock = some b := by
        have := e
        rw [show ({ st with sv := s1, L := st.L ++ [n] } : Tr.MSt).L.length = st.L.length + 1 from by show (st.L ++ [n]).length = _; rw [List.length_append, List.length_singleton]] at this
        exact this
      obtain ⟨h1, h2, -, h4⟩ := hnew b e
      exact ⟨h1.imp id fun h => ⟨by omega, by omega⟩, h2⟩
    · show (vs ++ [_]).length = (st.L ++ [n]).length
      rw [List.length_append, List.length_append, hM.len]; rfl
    · intro v hvm
      rcases List.mem_append.1 hvm with h | h
      · exact hM.five v h
      · rw [List.mem_singleton] at h; subst h; rfl
    · have hmi : (st.L ++ [n])[i]? = some m := hmi
      have eL : ({ st with sv := s1, L := st.L ++ [n] } : Tr.MSt).L.length = st.L.length + 1 := by show (st.L ++ [n]).length = _; rw [List.length_append, List.length_singleton]
      rw [eL]
      rcases Nat.lt_or_ge i vs.length with hlt | hge
      · rw [List.getElem?_append_left hlt] at hvi
        rw [List.getElem?_append_left (by have := hM.len; show i < st.L.length; rw [show st.L.length = vs.length from this.symm]; exact hlt)] at hmi
        obtain ⟨q1, q2⟩ := hM.nod i v m hvi hmi
        refine ⟨q1.keep (by omega) (fun b hb hbl => ⟨.inl hb.1, hb.2.1, fun e => ?_⟩) fun b hb hbl => hk b hbl hb.2.1 (fun e => by have := hX b hb.1; omega) hb.2.2, q2⟩
        rcases hv with hv | hv
        · exact hb.2.2 (hv.symm.trans e)
        · have e' := hv.symm.trans e
          injection e' with e'
          have := hX b hb.1
          omega
      · have hi : i = vs.length := by
          have : i < (vs ++ [#[z0, z1, z2, z3, z4]]).length := (List.getElem?_eq_some_iff.1 hvi).1
          rw [List.length_append, List.length_singleton] at this
          omega
        subst hi
        have e1 : v = #[z0, z1, z2, z3, z4] := by
          rw [List.getElem?_append_right (Nat.le_refl _), Nat.sub_self] at hvi
          injection hvi with e; exact e.symm
        have e2 : m = n := by
          have hl := hM.len
          rw [List.getElem?_append_right (by show st.L.length ≤ vs.length; rw [hl]; exact Nat.le_refl _)] at hmi
          rw [show vs.length - st.L.length = 0 by rw [hl]; exact Nat.sub_self _] at hmi
          injection hmi with e; exact e.symm
        subst e1
        subst e2
        refine ⟨fun u hu hb => hN u (by omega) fun b hb4 hb5 => ?_, hF⟩
        refine (hb b ⟨.inr ⟨by have := b4.size; omega, by have := hw7.size; omega⟩, fun e => by have := b4.size; omega, fun e => ?_⟩ (by have := hw7.size; omega)).trans (hk5 b hb4 hb5)
        rcases hv with hv | hv
        · have := hXW b (hM.hr b (hv.symm.trans e)).1
          have := b4.size
          omega
        · have e' := hv.symm.trans e
          injection e' with e'
          have := hw7.size
          omega
    · rcases hb with hb | hb
      · have := hX b hb; omega
      · exact hb.2
    · show (st.L ++ [n]).length ≤ 8001
      rw [List.length_append, List.length_singleton]; omega
  · refine ⟨⟨?_, ?_, ?_, by omega, fun b hb hbX => ?_⟩, fun b hb => hb.imp id fun h => h.1⟩
    · exact hc.os.trans (hg.os.trans (hB27.os.trans C2.os))
    · exact hc.tape.trans (hg.tape.trans (hB27.tape.trans C2.tape))
    · exact hc.output.trans (hg.output.trans (hB27.output.trans C2.output))
    · rw [hk b (by omega) (fun e => hbX (e ▸ hM.hp)) (by omega) (fun e => hbX (hM.hr b e).1)]
      exact C2.block b hb hbX
/-- A slice's address, and the nodes that its elements read as. -/
def NdsAt (w : World) (B : Nat) (A : Option Addr) (l : List Nd.N) : Prop :=
  l = [] ∨ ∃ b o, A = some ⟨b, o, none⟩ ∧ b < B ∧ ∀ (i : Nat) (h : i < l.length), ∃ v : Array Value, v.size = 5 ∧ (∀ j, j < 5 → w.cell? ⟨b, o + i * 5 + j, none⟩ = v[j]?) ∧ NdAt w B (.agg v) l[i]
theorem NdsAt.below {w w' : World} {B : Nat} {A : Option Addr} {l : List Nd.N} (h : NdsAt w B A l) (hb : Below B w w') : NdsAt w' B A l := by
  rcases h with h | ⟨b, o, e, hlt, hc⟩
  · exact .inl h
  · refine .inr ⟨b, o, e, hlt, fun i hi => ?_⟩
    obtain ⟨v, h1, h2, h3⟩ := hc i hi
    exact ⟨v, h1, fun j hj => (hb.cell (p := ⟨b, o + i * 5 + j, none⟩) hlt).trans (h2 j hj), h3.below hb⟩
theorem NdsAt.more {w : World} {B B' : Nat} {A : Option Addr} {l : List Nd.N} (h : NdsAt w B A l) (hB : B ≤ B') : NdsAt w B' A l := by
  rcases h with h | ⟨b, o, e, hlt, hc⟩
  · exact .inl h
  · refine .inr ⟨b, o, e, Nat.lt_of_lt_of_le hlt hB, fun i hi => ?_⟩
    obtain ⟨v, h1, h2, h3⟩ := hc i hi
    exact ⟨v, h1, h2, h3.more hB⟩
section
variable {H : Type} {enc : TypeId × Value → H} {w : World} {base : Nat}
set_option maxRecDepth 16000 in
theorem nds_arg {r : Reach} {b0 : Nat} {v : Value} {d : DataW H} {p : List MemPlace} (hval : Value.okWide Try.prog w r b0 99 v) (h : DataW.Trod enc Try.prog w base (fun _ => true) true 99 v d p) (hlt : ∀ x ∈ p, x.block < w.heap.size) :
    ∃ (A : Option Addr) (cap : Nat) (l : List Nd.N), v = .slice A l.length cap ∧ l.length ≤ cap ∧ cap ≤ maxLen ∧ NdsAt w w.heap.size A l ∧ (A = none → cap = 0) := by
  obtain ⟨a1, len1, cap1, rfl⟩ := okWide_slice Try.underlying99 hval
  obtain ⟨fuel, hf⟩ := h
  rcases wide_trod Try.underlying99 Try.underlying26 (by kernel_rfl) (by kernel_rfl) hf hlt with hcs | ⟨a, len, cap, hcs, hl, hm, hb, hi⟩
  · simp [Value.cells] at hcs
    obtain ⟨rfl, rfl, rfl⟩ := hcs
    exact ⟨none, 0, [], rfl, Nat.le_refl _, Nat.zero_le _, .inl rfl, fun _ => rfl⟩
  simp [Value.cells] at hcs
  obtain ⟨rfl, rfl, rfl⟩ := hcs
  have each : ∀ i, i < len1 → ∃ n : Nd.N, ∃ v : Array Value, v.size = 5 ∧ (∀ j, j < 5 → w.cell? ((a.add (i * 5)).add j) = v[j]?) ∧ NdAt w w.heap.size (.agg v) n := by
    intro i hil
    obtain ⟨vs, hvl, hc, hfd⟩ := hi i (by omega)
    have hvl : vs.length = 5 := hvl
    obtain ⟨v0, y0, n0, e0, t0, l0⟩ := hfd 0 _ rfl
    obtain ⟨v1, y1, n1, e1, t1, l1⟩ := hfd 1 _ rfl
    obtain ⟨v2, y2, n2, e2, t2, l2⟩ := hfd 2 _ rfl
    obtain ⟨v3, y3, n3, e3, t3, l3⟩ := hfd 3 _ rfl
    obtain ⟨v4, y4, n4, e4, t4, l4⟩ := hfd 4 _ rfl
    obtain ⟨z0, hz0, _, _⟩ := DataW.trod_int Try.underlying3 t0
    obtain ⟨A1, c1, ks, k1, k2, k3, k4, k5, k6⟩ := ints_trod Try.underlying22 Try.underlying3 (by kernel_rfl) t1 l1
    obtain ⟨A2, c2, ps, p1, p2⟩ := threes_trod Try.underlying23 Try.underlying54 rfl rfl rfl rfl Try.underlying3 (by kernel_rfl) (by kernel_rfl) t2 l2
    obtain ⟨A3, c3, gs, g1, g2, g3, g4, g5, g6⟩ := ints_trod Try.underlying22 Try.underlying3 (by kernel_rfl) t3 l3
    obtain ⟨A4, c4, kk, q1, q2⟩ := threes_trod Try.underlying24 Try.underlying56 rfl rfl rfl rfl Try.underlying3 (by kernel_rfl) (by kernel_rfl) t4 l4
    injection hz0 with hz0
    injection k1 with k1
    injection p1 with p1
    injection g1 with g1
    injection q1 with q1
    subst hz0 k1 p1 g1 q1
    refine ⟨⟨z0, ks, ps, gs, kk⟩, vs.toArray, by simpa using hvl, fun j hj => ?_, A1, c1, A2, c2, A3, c3, A4, c4, ?_, ⟨k2, k6, k4⟩, p2, ⟨g2, g6, g4⟩, q2⟩
    · rw [List.getElem?_toArray]
      exact hc j (by show j < 5; exact hj)
    · have hl : vs = [.int .i64 z0, .slice A1 ks.length c1, .slice A2 ps.length c2, .slice A3 gs.length c3, .slice A4 kk.length c4] := by
        apply List.ext_getElem?
        intro i
        rcases Nat.lt_or_ge i 5 with h | h
        · have hi : i = 0 ∨ i = 1 ∨ i = 2 ∨ i = 3 ∨ i = 4 := by omega
          rcases hi with rfl | rfl | rfl | rfl | rfl
          · exact e0
          · exact e1
          · exact e2
          · exact e3
          · exact e4
        · rw [List.getElem?_eq_none (by omega), List.getElem?_eq_none (by simpa using h)]
      rw [hl]
  obtain ⟨l, hll, hp⟩ := list_of_fn _ len1 each
  refine ⟨some a, cap1, l, by rw [hll], by omega, hm, ?_, by simp⟩
  by_cases h0 : len1 = 0
  · exact .inl (List.eq_nil_of_length_eq_zero (by omega))
  right
  obtain ⟨ab, ao, spot⟩ := a
  obtain ⟨v0, s0, c0, -⟩ := hp 0 (by omega)
  have hspot : spot = none := by
    have := c0 0 (by decide)
    rw [Array.getElem?_eq_getElem (show 0 < v0.size by omega)] at this
    simpa [Addr.add] using World.cell?_spot this
  subst hspot
  refine ⟨ab, ao, rfl, hb (Nat.mul_pos (by omega) (by decide)), fun i hii => ?_⟩
  obtain ⟨v, h1, h2, h3⟩ := hp i hii
  refine ⟨v, h1, fun j hj => ?_, h3⟩
  have := h2 j hj
  rw [Addr.add_lit, Addr.add_lit] at this
  exact this
end
end Go.Proofs.Ytlcchefiicalpaa
