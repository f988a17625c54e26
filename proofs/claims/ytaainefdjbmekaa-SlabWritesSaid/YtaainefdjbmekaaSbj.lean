/- Holes of free blocks, a taken block behind each: their runs, the first that has room (no walk). The state of runs in use beside the map of free blocks: what always holds (plain Lean, no program). The program's row of runs, with their uses now and their uses at the last Settle (plain Lean, no program). -/
import Derived.Test.YtaainefdjbmekaaSbi
namespace Go.Proofs.Ytaainefdjbmekaa.Rn
open Go.RowKit
theorem freeN_set {F : List Bool} {i : Nat} (hi : i < F.length) (b : Bool) : freeN (F.set i b) + (if F.getD i false = true then 1 else 0) = freeN F + if b = true then 1 else 0 := by
  unfold freeN
  rw [List.countP_set hi]
  have hg : F.getD i false = F[i] := by rw [List.getD_eq_getElem?_getD, List.getElem?_eq_getElem hi]; rfl
  have hpos : F[i] = true → 1 ≤ F.countP id := fun h => List.countP_pos_iff.2 ⟨F[i], List.getElem_mem hi, h⟩
  rw [hg]
  simp only [id_eq]
  cases h : F[i] <;> cases b <;> simp <;> have := hpos h <;> omega
theorem freeN_setN {F : List Bool} {a : Nat} {b : Bool} : ∀ n, a + n ≤ F.length → (∀ k, k < n → F.getD (a + k) false = !b) → if b = true then freeN (setN F a b n) = freeN F + n else freeN (setN F a b n) + n = freeN F
  | 0, _, _ => by rw [setN]; split <;> rfl
  | n + 1, h, hb => by
    have ih := freeN_setN n (by omega) (fun k hk => hb k (by omega))
    have hs := freeN_set (F := setN F a b n) (i := a + n) (by rw [setN_len]; omega) b
    rw [setN_at F a b (a + n) n (by omega), if_neg (show ¬ (a ≤ a + n ∧ a + n < a + n) by omega), hb n (by omega)] at hs
    rw [setN]
    cases b <;> simp at ih hs ⊢ <;> omega
/-- Holes of these sizes, a taken block behind each. -/
def H : List Nat → List Bool
  | [] => []
  | s :: ss => List.replicate s true ++ [false] ++ H ss
/-- All blocks of a run are free. -/
theorem list_true (F : List Bool) : ∀ r ∈ list F, ∀ j, r.1 ≤ j → j < r.1 + r.2 → F.getD j false = true := by
  suffices h : ∀ k, ∀ r ∈ listK F k, ∀ j, r.1 ≤ j → j < r.1 + r.2 → F.getD j false = true from h F.length
  intro k
  induction k with
  | zero => intro r hr; cases hr
  | succ k ih =>
    intro r hr j h1 h2
    rw [listK] at hr
    split at hr
    · rename_i hk
      unfold push at hr
      cases hl : (listK F k).getLast? with
      | none =>
        rw [hl] at hr; simp only [List.mem_singleton] at hr; subst hr
        have : j = k := by have : k ≤ j := h1; have : j < k + 1 := h2; omega
        rw [this]; exact hk
      | some q =>
        rw [hl] at hr
        have hq := ih q (List.mem_of_mem_getLast? hl)
        simp only at hr
        split at hr
        · rename_i hqe
          rcases List.mem_append.1 hr with h | h
          · exact ih r ((List.dropLast_sublist _).subset h) j h1 h2
          · rw [List.mem_singleton] at h; subst h
            by_cases hj : j = k
            · rw [hj]; exact hk
            · exact hq j h1 (by have : j < q.1 + (q.2 + 1) := h2; omega)
        · rcases List.mem_append.1 hr with h | h
          · exact ih r h j h1 h2
          · rw [List.mem_singleton] at h; subst h
            have : j = k := by have : k ≤ j := h1; have : j < k + 1 := h2; omega
            rw [this]; exact hk
    · exact ih r hr j h1 h2
/-- What was taken is not free; given back, all is as it was. -/
theorem take_back {F : List Bool} {k : Nat} (hk : 1 ≤ k) {r : Nat × Nat} (hf : ((list F).find? fun r => decide (k ≤ r.2)) = some r) :
    take F (k : Int) = (r.1, true, setN F r.1 false k) ∧ freeN (setN F r.1 false k) + k = freeN F ∧ mark (setN F r.1 false k) (r.1 : Int) 1 = (false, setN F r.1 false k) ∧ give (setN F r.1 false k) (r.1 : Int) (k : Int) = (true, F) := by
  have hr := List.mem_of_find?_eq_some hf
  have hkr : k ≤ r.2 := by have := List.find?_some hf; simpa using this
  obtain ⟨e1, e2⟩ := list_end F r hr
  have ht := list_true F r hr
  have hat := fun j => setN_at F r.1 false j k (by omega)
  refine ⟨?_, ?_, ?_, ?_⟩
  · unfold take
    rw [if_neg (by omega)]
    have : (fun r : Nat × Nat => decide ((k : Int) ≤ (r.2 : Int))) = fun r => decide (k ≤ r.2) := by funext r; simp
    rw [this, hf]; rfl
  · have := freeN_setN (F := F) (a := r.1) (b := false) k (by omega) (fun i hi => by rw [ht _ (by omega) (by omega)]; rfl)
    simpa using this
  · unfold mark change
    rw [if_neg]
    intro hh
    have := ((all_iff _ _ _ _).1 hh).2.2.2.2 0 (by decide)
    rw [Int.toNat_natCast, Nat.add_zero, hat, if_pos (by omega)] at this
    cases this
  · have e : all (setN F r.1 false k) (r.1 : Int) (k : Int) (!true) = true := (all_iff _ _ _ _).2 ⟨by omega, by omega, by rw [setN_len]; omega, by rw [setN_len]; omega, fun i hi => by
      rw [Int.toNat_natCast] at hi ⊢
      rw [hat, if_pos (by omega)]; rfl⟩
    unfold give change
    rw [if_pos e, Int.toNat_natCast, Int.toNat_natCast]
    congr 1
    refine ext (by rw [setN_len, setN_len]) fun j hj => ?_
    rw [setN_at _ _ _ _ _ (by rw [setN_len]; omega), hat]
    by_cases h : r.1 ≤ j ∧ j < r.1 + k
    · rw [if_pos h, ht j h.1 (by omega)]
    · rw [if_neg h, if_neg h]
theorem take_none {F : List Bool} {k : Nat} (hk : 1 ≤ k) (hf : ((list F).find? fun r => decide (k ≤ r.2)) = none) : take F (k : Int) = (0, false, F) := by
  unfold take
  rw [if_neg (by omega)]
  have : (fun r : Nat × Nat => decide ((k : Int) ≤ (r.2 : Int))) = fun r => decide (k ≤ r.2) := by funext r; simp
  rw [this, hf]
end Go.Proofs.Ytaainefdjbmekaa.Rn
namespace Go.Proofs.Ytaainefdjbmekaa.Sh
/-- Runs in use: taken, apart from each other, ascending; what was in use before is known. -/
structure StOk (F : List Bool) (now was : List U) : Prop where
  held : ∀ u ∈ now, 1 ≤ u.2.1 ∧ u.1 + u.2.1 ≤ F.length ∧ ∀ j, u.1 ≤ j → j < u.1 + u.2.1 → F.getD j false = false
  apart : now.Pairwise fun u v => u.1 + u.2.1 ≤ v.1
  apart2 : was.Pairwise fun u v => u.1 + u.2.1 ≤ v.1
  old : ∀ u ∈ was, ∃ m, (u.1, u.2.1, m) ∈ now
theorem StOk.start (F : List Bool) : StOk F [] [] := ⟨by simp, List.Pairwise.nil, List.Pairwise.nil, by simp⟩
theorem idxV_neg {l : List U} {a : Int} (h : ∀ u ∈ l, (u.1 : Int) ≠ a) : idxV l a = -1 := by
  unfold idxV
  rw [idx_none fun j hj => h _ (by unfold at_; rw [List.getD_eq_getElem?_getD, List.getElem?_eq_getElem hj]; exact List.getElem_mem hj)]
/-- What below takes and leaves. -/
theorem below_split (l : List U) (a : Nat) (hp : l.Pairwise fun u v => u.1 ≤ v.1) : (∀ u ∈ l.take (below l a), u.1 < a) ∧ ∀ u ∈ l.drop (below l a), a ≤ u.1 := by
  induction l with
  | nil => simp
  | cons u l ih =>
    obtain ⟨h1, h2⟩ := List.pairwise_cons.1 hp
    unfold below
    rw [List.takeWhile_cons]
    by_cases c : u.1 < a
    · rw [if_pos (by simpa using c), List.length_cons, List.take_succ_cons, List.drop_succ_cons]
      obtain ⟨i1, i2⟩ := ih h2
      unfold below at i1 i2
      refine ⟨fun x hx => ?_, i2⟩
      rcases List.mem_cons.1 hx with rfl | hx
      · exact c
      · exact i1 x hx
    · rw [if_neg (by simpa using c)]
      refine ⟨by simp, fun x hx => ?_⟩
      rcases List.mem_cons.1 hx with rfl | hx
      · omega
      · have := h1 x hx; omega
/-- A run that was just taken becomes known. -/
theorem StOk.add {F G : List Bool} {now was : List U} (h : StOk F now was) {a n : Nat} (hn : 1 ≤ n) (hl : G.length = F.length) (hf : a + n ≤ F.length) (hfree : ∀ j, a ≤ j → j < a + n → F.getD j false = true) (hG : ∀ j, G.getD j false = if a ≤ j ∧ j < a + n then false else F.getD j false) :
    add now (a : Int) (n : Int) = (true, ins now a n) ∧ StOk G (ins now a n) was := by
  have hdis : ∀ u ∈ now, u.1 + u.2.1 ≤ a ∨ a + n ≤ u.1 := fun u hu => by
    obtain ⟨h1, h2, h3⟩ := h.held u hu
    rcases Nat.lt_or_ge a (u.1 + u.2.1) with c1 | c1
    · rcases Nat.lt_or_ge u.1 (a + n) with c2 | c2
      · exfalso
        have k1 := h3 (max a u.1) (by omega) (by omega)
        have k2 := hfree (max a u.1) (by omega) (by omega)
        rw [k1] at k2
        cases k2
      · exact .inr c2
    · exact .inl c1
  have hidx : idxV now (a : Int) = -1 := idxV_neg fun u hu e => by
    have := hdis u hu
    have := (h.held u hu).1
    omega
  have hasc : now.Pairwise fun u v => u.1 ≤ v.1 := h.apart.imp fun {u v} h => by omega
  obtain ⟨s1, s2⟩ := below_split now a hasc
  refine ⟨?_, ?_⟩
  · unfold Sh.add
    rw [if_neg (by rw [hidx]; omega), Int.toNat_natCast, Int.toNat_natCast]
  · have hmem : ∀ u, u ∈ ins now a n ↔ u ∈ now ∨ u = (a, n, 1) := fun u => by
      unfold ins
      rw [List.mem_append, List.mem_append, List.mem_singleton]
      constructor
      · rintro ((hu | hu) | hu)
        · exact .inl (List.mem_of_mem_take hu)
        · exact .inr hu
        · exact .inl (List.mem_of_mem_drop hu)
      · rintro (hu | hu)
        · rw [← List.take_append_drop (below now a) now, List.mem_append] at hu
          rcases hu with hu | hu
          · exact .inl (.inl hu)
          · exact .inr hu
        · exact .inl (.inr hu)
    refine ⟨fun u hu => ?_, ?_, h.apart2, fun u hu => ?_⟩
    · rcases (hmem u).1 hu with hu | rfl
      · obtain ⟨h1, h2, h3⟩ := h.held u hu
        refine ⟨h1, by omega, fun j j1 j2 => ?_⟩
        rw [hG]
        split
        · rfl
        · exact h3 j j1 j2
      · exact ⟨hn, by show a + n ≤ G.length; omega, fun j j1 j2 => by rw [hG, if_pos ⟨j1, j2⟩]⟩
    · unfold ins
      refine List.pairwise_append.2 ⟨List.pairwise_append.2 ⟨h.apart.sublist (List.take_sublist _ _), List.pairwise_singleton _ _, fun u hu v hv => ?_⟩, h.apart.sublist (List.drop_sublist _ _), fun u hu v hv => ?_⟩
      · rw [List.mem_singleton.1 hv]
        have := s1 u hu
        have := hdis u (List.mem_of_mem_take hu)
        have := (h.held u (List.mem_of_mem_take hu)).1
        show u.1 + u.2.1 ≤ a
        omega
      · rcases List.mem_append.1 hu with hu | hu
        · have hh := h.apart
          rw [← List.take_append_drop (below now a) now] at hh
          exact (List.pairwise_append.1 hh).2.2 u hu v hv
        · rw [List.mem_singleton.1 hu]
          have := s2 v hv
          have := hdis v (List.mem_of_mem_drop hv)
          have := (h.held v (List.mem_of_mem_drop hv)).1
          show a + n ≤ v.1
          omega
    · obtain ⟨m, hm⟩ := h.old u hu
      exact ⟨m, (hmem _).2 (.inl hm)⟩
/-- Uses change, the runs do not. -/
theorem setU_runs (l : List U) (k m : Nat) : (setU l k m).map (fun u => (u.1, u.2.1)) = l.map fun u => (u.1, u.2.1) := by
  unfold setU
  rcases Nat.lt_or_ge k l.length with hk | hk
  · refine List.ext_getElem (by simp) fun i h1 h2 => ?_
    rw [List.getElem_map, List.getElem_map, List.getElem_set]
    split
    · next e =>
      subst e
      unfold at_
      rw [List.getD_eq_getElem?_getD, List.getElem?_eq_getElem hk]
      rfl
    · rfl
  · rw [List.set_eq_of_length_le hk]
theorem StOk.runs {F : List Bool} {now now' was : List U} (h : StOk F now was) (hr : now'.map (fun u => (u.1, u.2.1)) = now.map fun u => (u.1, u.2.1)) : StOk F now' was := by
  have hm : ∀ u : U, u ∈ now' → ∃ m, (u.1, u.2.1, m) ∈ now := fun u hu => by
    have : (u.1, u.2.1) ∈ now'.map fun u => (u.1, u.2.1) := List.mem_map.2 ⟨u, hu, rfl⟩
    rw [hr] at this
    obtain ⟨v, hv, e⟩ := List.mem_map.1 this
    injection e with e1 e2
    exact ⟨v.2.2, by rw [← e1, ← e2]; exact hv⟩
  have hm' : ∀ u : U, u ∈ now → ∃ m, (u.1, u.2.1, m) ∈ now' := fun u hu => by
    have : (u.1, u.2.1) ∈ now.map fun u => (u.1, u.2.1) := List.mem_map.2 ⟨u, hu, rfl⟩
    rw [← hr] at this
    obtain ⟨v, hv, e⟩ := List.mem_map.1 this
    injection e with e1 e2
    exact ⟨v.2.2, by rw [← e1, ← e2]; exact hv⟩
  refine ⟨fun u hu => ?_, ?_, h.apart2, fun u hu => ?_⟩
  · obtain ⟨m, hmm⟩ := hm u hu
    exact h.held (u.1, u.2.1, m) hmm
  · have h1 : (now.map fun u : U => (u.1, u.2.1)).Pairwise fun r q => r.1 + r.2 ≤ q.1 := List.pairwise_map.2 h.apart
    rw [← hr] at h1
    exact List.pairwise_map.1 h1
  · obtain ⟨m, hmm⟩ := h.old u hu
    obtain ⟨m', h'⟩ := hm' (u.1, u.2.1, m) hmm
    exact ⟨m', h'⟩
theorem change_runs (l : List U) (a : Int) (more : Bool) : (change l a more).2.map (fun u => (u.1, u.2.1)) = l.map fun u => (u.1, u.2.1) := by
  unfold change
  cases idx l a with
  | none => rfl
  | some k =>
    simp only
    split
    · rfl
    · exact setU_runs _ _ _
theorem StOk.change {F : List Bool} {now was : List U} (h : StOk F now was) (a : Int) (more : Bool) : StOk F (change now a more).2 was := h.runs (change_runs now a more)
/-- Runs that are taken, and apart. -/
def Held (F : List Bool) (l : List U) : Prop := (∀ u ∈ l, 1 ≤ u.2.1 ∧ u.1 + u.2.1 ≤ F.length ∧ ∀ j, u.1 ≤ j → j < u.1 + u.2.1 → F.getD j false = false) ∧ l.Pairwise fun u v => u.1 + u.2.1 ≤ v.1
theorem StOk.heldL {F : List Bool} {now was : List U} (h : StOk F now was) {l : List U} (hs : l.Sublist now) : Held F l := ⟨fun u hu => h.held u (hs.subset hu), h.apart.sublist hs⟩
theorem give_run {F : List Bool} {u : U} (h1 : 1 ≤ u.2.1) (h2 : u.1 + u.2.1 ≤ F.length) (h3 : ∀ j, u.1 ≤ j → j < u.1 + u.2.1 → F.getD j false = false) : Rn.give F (u.1 : Int) (u.2.1 : Int) = (true, Rn.setN F u.1 true u.2.1) := by
  have ha : Rn.all F (u.1 : Int) (u.2.1 : Int) (!true) = true := (Rn.all_iff _ _ _ _).2 ⟨by omega, by omega, by omega, by omega, fun k hk => by
    rw [Int.toNat_natCast] at hk ⊢
    exact h3 _ (by omega) (by omega)⟩
  unfold Rn.give Rn.change
  rw [if_pos ha, Int.toNat_natCast, Int.toNat_natCast]
theorem giveAll_at : ∀ {l : List U} {F : List Bool}, Held F l → (giveAll F l).length = F.length ∧ ∀ j, ((∃ u ∈ l, u.1 ≤ j ∧ j < u.1 + u.2.1) → (giveAll F l).getD j false = true) ∧ ((¬ ∃ u ∈ l, u.1 ≤ j ∧ j < u.1 + u.2.1) → (giveAll F l).getD j false = F.getD j false)
  | [], F, _ => ⟨rfl, fun j => ⟨fun ⟨u, hu, _⟩ => by simp at hu, fun _ => rfl⟩⟩
  | u :: l, F, h => by
    obtain ⟨h1, h2, h3⟩ := h.1 u (List.mem_cons_self ..)
    obtain ⟨p1, p2⟩ := List.pairwise_cons.1 h.2
    have hg := give_run h1 h2 h3
    have hat := fun j => Rn.setN_at F u.1 true j u.2.1 h2
    have hl := Rn.setN_len F u.1 true u.2.1
    have hstep : giveAll F (u :: l) = giveAll (Rn.setN F u.1 true u.2.1) l := by
      unfold giveAll
      rw [List.foldl_cons, hg]
    obtain ⟨i1, i2⟩ := giveAll_at (l := l) (F := Rn.setN F u.1 true u.2.1) ⟨fun v hv => by
      obtain ⟨k1, k2, k3⟩ := h.1 v (List.mem_cons_of_mem _ hv)
      have := p1 v hv
      exact ⟨k1, by omega, fun j j1 j2 => by rw [hat, if_neg (by omega)]; exact k3 j j1 j2⟩, p2⟩
    rw [hstep]
    refine ⟨by omega, fun j => ⟨fun ⟨v, hv, hj⟩ => ?_, fun hn => ?_⟩⟩
    · rcases List.mem_cons.1 hv with rfl | hv
      · by_cases c : ∃ x ∈ l, x.1 ≤ j ∧ j < x.1 + x.2.1
        · exact (i2 j).1 c
        · rw [(i2 j).2 c, hat, if_pos hj]
      · exact (i2 j).1 ⟨v, hv, hj⟩
    · rw [(i2 j).2 fun ⟨v, hv, hj⟩ => hn ⟨v, List.mem_cons_of_mem _ hv, hj⟩, hat, if_neg fun hj => hn ⟨u, List.mem_cons_self .., hj⟩]
/-- What is not given back stays. -/
theorem StOk.given {F : List Bool} {now was : List U} (h : StOk F now was) {l keep : List U} (hl : l.Sublist now) (hk : keep.Sublist now) (hd : ∀ u ∈ l, u ∉ keep) : StOk (giveAll F l) keep keep := by
  obtain ⟨g1, g2⟩ := giveAll_at (h.heldL hl)
  refine ⟨fun u hu => ?_, h.apart.sublist hk, h.apart.sublist hk, fun u hu => ⟨u.2.2, hu⟩⟩
  obtain ⟨k1, k2, k3⟩ := h.held u (hk.subset hu)
  refine ⟨k1, by omega, fun j j1 j2 => ?_⟩
  rw [(g2 j).2 fun ⟨v, hv, v1, v2⟩ => ?_]
  · exact k3 j j1 j2
  · have hne : v ≠ u := fun e => hd v hv (e ▸ hu)
    have hvn := hl.subset hv
    have hun := hk.subset hu
    have key : v.1 + v.2.1 ≤ u.1 ∨ u.1 + u.2.1 ≤ v.1 := by
      have := h.apart
      rw [List.pairwise_iff_getElem] at this
      obtain ⟨a, ha, rfl⟩ := List.mem_iff_getElem.1 hvn
      obtain ⟨b, hb, rfl⟩ := List.mem_iff_getElem.1 hun
      rcases Nat.lt_trichotomy a b with c | c | c
      · exact .inl (this a b ha hb c)
      · subst c; exact absurd rfl hne
      · exact .inr (this b a hb ha c)
    omega
theorem StOk.settle {F : List Bool} {now was : List U} (h : StOk F now was) : StOk (giveAll F (lates now)) (used now) (used now) :=
  h.given List.filter_sublist List.filter_sublist fun u hu hk => by
    have h1 := (List.mem_filter.1 hu).2
    have h2 := (List.mem_filter.1 hk).2
    rw [h1] at h2
    cases h2
theorem StOk.back {F : List Bool} {now was : List U} (h : StOk F now was) : StOk (giveAll F (news now was)) was was := by
  have hsub : (news now was).Sublist now := List.filter_sublist
  obtain ⟨g1, g2⟩ := giveAll_at (h.heldL hsub)
  refine ⟨fun u hu => ?_, h.apart2, h.apart2, fun u hu => ⟨u.2.2, hu⟩⟩
  obtain ⟨m, hm⟩ := h.old u hu
  obtain ⟨k1, k2, k3⟩ := h.held _ hm
  dsimp only at k1 k2 k3
  refine ⟨k1, by omega, fun j j1 j2 => ?_⟩
  rw [(g2 j).2 fun ⟨v, hv, v1, v2⟩ => ?_]
  · exact k3 j j1 j2
  · obtain ⟨hvn, hvw⟩ := List.mem_filter.1 hv
    have hne : v.1 ≠ u.1 := fun e => by
      have : (was.any fun o => decide (o.1 = v.1)) = true := List.any_eq_true.2 ⟨u, hu, by simp [e]⟩
      rw [this] at hvw
      cases hvw
    have key : v.1 + v.2.1 ≤ u.1 ∨ u.1 + u.2.1 ≤ v.1 := by
      have := h.apart
      rw [List.pairwise_iff_getElem] at this
      obtain ⟨a, ha, hae⟩ := List.mem_iff_getElem.1 hvn
      obtain ⟨b, hb, hbe⟩ := List.mem_iff_getElem.1 hm
      rcases Nat.lt_trichotomy a b with c | c | c
      · have := this a b ha hb c
        rw [hae, hbe] at this
        exact .inl this
      · subst c
        rw [hae] at hbe
        exact absurd (congrArg (·.1) hbe) hne
      · have := this b a hb ha c
        rw [hae, hbe] at this
        exact .inr this
    omega
end Go.Proofs.Ytaainefdjbmekaa.Sh
namespace Go.Proofs.Ytaainefdjbmekaa.Sk
open Sh
/-- A run: first block, blocks, uses now, uses at the last Settle (0: it was not known). -/
abbrev K := Nat × Nat × Nat × Nat
def toN (k : K) : U := (k.1, k.2.1, k.2.2.1)
def toW (k : K) : U := (k.1, k.2.1, k.2.2.2)
def isL (k : K) : Bool := k.2.2.1 == 0
def isA (k : K) : Bool := k.2.2.2 == 0
def ofN (l : List K) : List U := l.map toN
def ofW (l : List K) : List U := (l.filter fun k => !isA k).map toW
def Asc (l : List K) : Prop := l.Pairwise fun a b => a.1 < b.1
def at_ (l : List K) (k : Nat) : K := l.getD k (0, 0, 0, 0)
theorem at_eq {l : List K} {k : Nat} (h : k < l.length) : at_ l k = l[k] := by unfold at_; rw [List.getD_eq_getElem?_getD, List.getElem?_eq_getElem h]; rfl
theorem at_some {l : List K} {k : Nat} (h : k < l.length) : l[k]? = some (at_ l k) := by rw [at_eq h, List.getElem?_eq_getElem h]
theorem ofN_len (l : List K) : (ofN l).length = l.length := by unfold ofN; rw [List.length_map]
theorem ofN_at {l : List K} {k : Nat} (h : k < l.length) : Sh.at_ (ofN l) k = toN (at_ l k) := by
  unfold Sh.at_ ofN
  rw [List.getD_eq_getElem?_getD, List.getElem?_map, at_some h]
  rfl
theorem Asc.lt {l : List K} (h : Asc l) {i j : Nat} (hij : i < j) (hj : j < l.length) : (at_ l i).1 < (at_ l j).1 := by
  rw [at_eq hj, at_eq (Nat.lt_trans hij hj)]
  exact (List.pairwise_iff_getElem.1 h) i j _ hj hij
/-- The first that does not lie below a. -/
structure Found (l : List K) (a : Int) (i : Nat) (is : Bool) : Prop where
  le : i ≤ l.length
  lo : ∀ j, j < i → ((at_ l j).1 : Int) < a
  hi : ∀ j, i ≤ j → j < l.length → a ≤ ((at_ l j).1 : Int)
  is_ : is = (decide (i < l.length) && decide (((at_ l i).1 : Int) = a))
section
variable {l : List K} {a : Int} {i : Nat} {is : Bool}
theorem Found.yes (h : Found l a i true) : i < l.length ∧ ((at_ l i).1 : Int) = a := by
  have := h.is_
  simpa using this.symm
theorem Found.idx_yes (h : Found l a i true) : idx (ofN l) a = some i := by
  obtain ⟨h1, h2⟩ := h.yes
  refine idx_here (by rw [ofN_len]; exact h1) (by rw [ofN_at h1]; exact h2) fun j hj => ?_
  rw [ofN_at (by omega)]
  have := h.lo j hj
  show ((at_ l j).1 : Int) ≠ a
  omega
theorem Found.idx_no (hs : Asc l) (h : Found l a i false) : idx (ofN l) a = none := by
  refine idx_none fun j hj => ?_
  rw [ofN_len] at hj
  rw [ofN_at hj]
  show ((at_ l j).1 : Int) ≠ a
  intro e
  rcases Nat.lt_or_ge j i with c | c
  · have := h.lo j c; omega
  · have hi := h.is_
    have c1 : i < l.length := by omega
    have c2 : ((at_ l i).1 : Int) = a := by
      have h1 := h.hi i (Nat.le_refl _) c1
      rcases Nat.eq_or_lt_of_le c with c | c
      · rw [c]; exact e
      · have := hs.lt c hj; omega
    simp [c1, c2] at hi
theorem Found.below {a : Nat} (h : Found l (a : Int) i is) : below (ofN l) a = i := by
  refine below_here (by rw [ofN_len]; exact h.le) (fun j hj => ?_) (fun hk => ?_)
  · rw [ofN_at (by have := h.le; omega)]
    have := h.lo j hj
    show (at_ l j).1 < a
    omega
  · rw [ofN_len] at hk
    rw [ofN_at hk]
    have := h.hi i (Nat.le_refl _) hk
    show ¬ (at_ l i).1 < a
    omega
/-- A run more. -/
def insK (l : List K) (i a n : Nat) : List K := l.take i ++ [(a, n, 1, 0)] ++ l.drop i
theorem insK_len (l : List K) (i a n : Nat) (h : i ≤ l.length) : (insK l i a n).length = l.length + 1 := by
  unfold insK
  rw [List.length_append, List.length_append, List.length_take, List.length_drop, List.length_singleton]
  omega
theorem ofN_ins {a : Nat} (h : Found l (a : Int) i is) (n : Nat) : ofN (insK l i a n) = ins (ofN l) a n := by
  unfold ins
  rw [h.below]
  unfold insK ofN
  rw [List.map_append, List.map_append, List.map_take, List.map_drop]
  rfl
theorem ofW_ins (l : List K) (i a n : Nat) : ofW (insK l i a n) = ofW l := by
  have e : ofW l = ofW (l.take i ++ l.drop i) := by rw [List.take_append_drop]
  rw [e]
  unfold insK ofW
  rw [List.filter_append, List.filter_append, List.filter_append]
  simp [isA]
theorem asc_ins {a : Nat} (hs : Asc l) (h : Found l (a : Int) i false) (n : Nat) : Asc (insK l i a n) := by
  have hlo : ∀ u ∈ l.take i, u.1 < a := fun u hu => by
    obtain ⟨j, hj, rfl⟩ := List.mem_iff_getElem.1 hu
    rw [List.length_take] at hj
    rw [List.getElem_take]
    have := h.lo j (by omega)
    rw [at_eq (by omega)] at this
    omega
  have hhi : ∀ u ∈ l.drop i, a < u.1 := fun u hu => by
    obtain ⟨j, hj, rfl⟩ := List.mem_iff_getElem.1 hu
    rw [List.length_drop] at hj
    rw [List.getElem_drop]
    have h1 := h.hi (i + j) (by omega) (by omega)
    have h3 := h.idx_no hs
    rw [at_eq (by omega)] at h1
    have hne : ((Sh.at_ (ofN l) (i + j)).1 : Int) ≠ a := by
      intro e
      unfold idx at h3
      rw [List.findIdx?_eq_none_iff] at h3
      have := h3 (Sh.at_ (ofN l) (i + j)) (by
        unfold Sh.at_
        rw [List.getD_eq_getElem?_getD, List.getElem?_eq_getElem (by rw [ofN_len]; omega)]
        exact List.getElem_mem _)
      simp at this
      omega
    rw [ofN_at (by omega), at_eq (by omega)] at hne
    have hne : ((l[i + j]).1 : Int) ≠ (a : Int) := hne
    omega
  unfold insK Asc
  refine List.pairwise_append.2 ⟨List.pairwise_append.2 ⟨hs.sublist (List.take_sublist _ _), List.pairwise_singleton _ _, fun u hu v hv => ?_⟩, hs.sublist (List.drop_sublist _ _), fun u hu v hv => ?_⟩
  · rw [List.mem_singleton.1 hv]; exact hlo u hu
  · rcases List.mem_append.1 hu with hu | hu
    · exact Nat.lt_trans (hlo u hu) (hhi v hv)
    · rw [List.mem_singleton.1 hu]; exact hhi v hv
theorem add_no {n : Int} (h : n < 1 ∨ a < 0) : add (ofN l) a n = (false, ofN l) := by
  unfold add
  rw [if_pos]
  rcases h with h | h
  · exact .inl h
  · exact .inr (.inl h)
theorem add_known {n : Int} (h : Found l a i true) : add (ofN l) a n = (false, ofN l) := by
  unfold add idxV
  rw [h.idx_yes, if_pos (.inr (.inr (Int.natCast_nonneg i)))]
theorem add_new {a n : Nat} (hs : Asc l) (h : Found l (a : Int) i false) (hn : 1 ≤ n) : add (ofN l) (a : Int) (n : Int) = (true, ofN (insK l i a n)) := by
  unfold add idxV
  rw [h.idx_no hs, if_neg (by show ¬ _; simp; omega), ofN_ins h, Int.toNat_natCast, Int.toNat_natCast]
/-- Uses changed. -/
def putU (l : List K) (i m : Nat) : List K := l.set i ((at_ l i).1, (at_ l i).2.1, m, (at_ l i).2.2.2)
theorem putU_len (l : List K) (i m : Nat) : (putU l i m).length = l.length := by unfold putU; rw [List.length_set]
theorem ofN_put (h : i < l.length) (m : Nat) : ofN (putU l i m) = setU (ofN l) i m := by
  unfold putU setU
  rw [ofN_at h]
  unfold ofN
  rw [List.map_set]
  rfl
theorem ofW_put (h : i < l.length) (m : Nat) : ofW (putU l i m) = ofW l := by
  have e : l.set i ((at_ l i).1, (at_ l i).2.1, m, (at_ l i).2.2.2) = l.take i ++ ((at_ l i).1, (at_ l i).2.1, m, (at_ l i).2.2.2) :: l.drop (i + 1) := List.set_eq_take_append_cons_drop .. |>.trans (by rw [if_pos h])
  have e2 : l = l.take i ++ at_ l i :: l.drop (i + 1) := by
    conv => lhs; rw [← List.take_append_drop i l]
    rw [List.drop_eq_getElem_cons h, at_eq h]
  unfold putU
  rw [e]
  conv => rhs; rw [e2]
  unfold ofW
  rw [List.filter_append, List.filter_append, List.map_append, List.map_append]
  congr 1
  rw [List.filter_cons, List.filter_cons]
  show (if (!isA ((at_ l i).1, (at_ l i).2.1, m, (at_ l i).2.2.2)) = true then _ else _ : List K).map toW = _
  have : isA ((at_ l i).1, (at_ l i).2.1, m, (at_ l i).2.2.2) = isA (at_ l i) := rfl
  rw [this]
  split <;> rfl
theorem asc_put (hs : Asc l) (h : i < l.length) (m : Nat) : Asc (putU l i m) := by
  have e : (putU l i m).map (·.1) = l.map (·.1) := by
    unfold putU
    rw [List.map_set]
    refine List.ext_getElem (by simp) fun j h1 h2 => ?_
    rw [List.getElem_set]
    split
    · next e => subst e; rw [List.getElem_map, at_eq h]
    · rfl
  have h1 : (l.map (·.1)).Pairwise (· < ·) := List.pairwise_map.2 hs
  rw [← e] at h1
  exact List.pairwise_map.1 h1
theorem change_no (hs : Asc l) (h : Found l a i false) (more : Bool) : change (ofN l) a more = (false, ofN l) := by
  unfold change
  rw [h.idx_no hs]
theorem change_late (h : Found l a i true) (hz : (at_ l i).2.2.1 = 0) (more : Bool) : change (ofN l) a more = (false, ofN l) := by
  unfold change
  rw [h.idx_yes]
  simp only
  rw [ofN_at h.yes.1, if_pos (show (toN (at_ l i)).2.2 = 0 from hz)]
theorem change_yes (h : Found l a i true) (hz : (at_ l i).2.2.1 ≠ 0) (more : Bool) : change (ofN l) a more = (true, ofN (putU l i (if more = true then (at_ l i).2.2.1 + 1 else (at_ l i).2.2.1 - 1))) := by
  unfold change
  rw [h.idx_yes, ofN_put h.yes.1]
  simp only
  rw [ofN_at h.yes.1, if_neg (show ¬ (toN (at_ l i)).2.2 = 0 from hz)]
  rfl
theorem uses_yes (h : Found l a i true) : uses (ofN l) a = (at_ l i).2.2.1 := by
  unfold uses
  rw [h.idx_yes]
  simp only
  rw [ofN_at h.yes.1]
  rfl
theorem uses_no (hs : Asc l) (h : Found l a i false) : uses (ofN l) a = 0 := by
  unfold uses
  rw [h.idx_no hs]
end
theorem filter_next (p : K → Bool) {l : List K} {i : Nat} (h : i < l.length) : (l.take (i + 1)).filter p = (l.take i).filter p ++ if p (at_ l i) = true then [at_ l i] else [] := by
  rw [List.take_add_one, at_some h, List.filter_append]
  congr 1
  by_cases c : p (at_ l i) = true
  · rw [if_pos c]; simp [List.filter, c]
  · rw [if_neg c]; simp [List.filter, c]
/-- What is given back, run by run. -/
def gone (p : K → Bool) (F : List Bool) (l : List K) : List Bool := giveAll F (ofN (l.filter p))
def sumN (p : K → Bool) (l : List K) : Nat := blocks (ofN (l.filter p))
theorem gone_next (p : K → Bool) (F : List Bool) {l : List K} {i : Nat} (h : i < l.length) : gone p F (l.take (i + 1)) = if p (at_ l i) = true then (Rn.give (gone p F (l.take i)) ((at_ l i).1 : Int) ((at_ l i).2.1 : Int)).2 else gone p F (l.take i) := by
  unfold gone
  rw [filter_next p h]
  split
  · unfold ofN giveAll
    rw [List.map_append, List.foldl_append]
    rfl
  · rw [List.append_nil]
theorem sumN_next (p : K → Bool) {l : List K} {i : Nat} (h : i < l.length) : sumN p (l.take (i + 1)) = sumN p (l.take i) + if p (at_ l i) = true then (at_ l i).2.1 else 0 := by
  unfold sumN
  rw [filter_next p h]
  split
  · unfold ofN blocks
    rw [List.map_append, List.map_append, List.sum_append]
    simp [toN]
  · rw [List.append_nil]; omega
theorem sumN_few (p : K → Bool) {l : List K} {M : Nat} (h : ∀ k ∈ l, k.2.1 ≤ M) (i : Nat) : sumN p (l.take i) ≤ l.length * M := by
  have h1 : ∀ (r : List K), (∀ k ∈ r, k.2.1 ≤ M) → blocks (ofN r) ≤ r.length * M := by
    intro r hr
    induction r with
    | nil => simp [blocks, ofN]
    | cons k r ih =>
      have := ih fun k hk => hr k (List.mem_cons_of_mem _ hk)
      have h2 := hr k (List.mem_cons_self ..)
      unfold blocks ofN at this ⊢
      rw [List.map_cons, List.map_cons, List.sum_cons, List.length_cons, Nat.add_mul]
      show k.2.1 + _ ≤ _
      omega
  have hsub : ((l.take i).filter p).Sublist l := List.filter_sublist.trans (List.take_sublist _ _)
  exact Nat.le_trans (h1 _ fun k hk => h k (hsub.subset hk)) (Nat.mul_le_mul_right _ hsub.length_le)
theorem lates_is (l : List K) : lates (ofN l) = ofN (l.filter isL) := by
  unfold lates ofN
  rw [List.filter_map]
  rfl
theorem used_is (l : List K) : used (ofN l) = ofN (l.filter fun k => !isL k) := by
  unfold used ofN
  rw [List.filter_map]
  rfl
/-- Uses at the last Settle made the uses now (Settle), or the other way round (Back). -/
def lev1 (k : K) : K := (k.1, k.2.1, k.2.2.1, k.2.2.1)
def lev2 (k : K) : K := (k.1, k.2.1, k.2.2.2, k.2.2.2)
theorem settle_now (l : List K) : ofN ((l.filter fun k => !isL k).map lev1) = used (ofN l) := by
  rw [used_is]
  unfold ofN
  rw [List.map_map]
  rfl
theorem settle_was (l : List K) : ofW ((l.filter fun k => !isL k).map lev1) = used (ofN l) := by
  rw [used_is]
  unfold ofW ofN
  rw [List.filter_map, List.filter_filter, List.map_map]
  congr 1
  refine List.filter_congr fun k _ => ?_
  show (!isA (lev1 k) && !isL k) = !isL k
  have : isA (lev1 k) = isL k := rfl
  rw [this, Bool.and_self]
theorem back_now (l : List K) : ofN ((l.filter fun k => !isA k).map lev2) = ofW l := by
  unfold ofN ofW
  rw [List.map_map]
  rfl
theorem back_was (l : List K) : ofW ((l.filter fun k => !isA k).map lev2) = ofW l := by
  unfold ofW
  rw [List.filter_map, List.filter_filter, List.map_map]
  congr 1
  refine List.filter_congr fun k _ => ?_
  show (!isA (lev2 k) && !isA k) = !isA k
  have : isA (lev2 k) = isA k := rfl
  rw [this, Bool.and_self]
theorem news_is {l : List K} (h : Asc l) : news (ofN l) (ofW l) = ofN (l.filter isA) := by
  unfold news ofN
  rw [List.filter_map]
  congr 1
  refine List.filter_congr fun k hk => ?_
  show (!(ofW l).any fun o => decide (o.1 = (toN k).1)) = isA k
  cases hA : isA k with
  | false =>
    have : ((ofW l).any fun o => decide (o.1 = (toN k).1)) = true := List.any_eq_true.2 ⟨toW k, List.mem_map.2 ⟨k, List.mem_filter.2 ⟨hk, by simp [hA]⟩, rfl⟩, by simp [toN, toW]⟩
    rw [this]; rfl
  | true =>
    have : ((ofW l).any fun o => decide (o.1 = (toN k).1)) = false := by
      rw [List.any_eq_false]
      intro o ho
      obtain ⟨k2, hk2, rfl⟩ := List.mem_map.1 ho
      obtain ⟨hm, hA2⟩ := List.mem_filter.1 hk2
      simp only [decide_eq_true_eq]
      intro e
      have e : k2.1 = k.1 := e
      have : k2 = k := by
        obtain ⟨i, hi, rfl⟩ := List.mem_iff_getElem.1 hm
        obtain ⟨j, hj, rfl⟩ := List.mem_iff_getElem.1 hk
        have hp := List.pairwise_iff_getElem.1 h
        rcases Nat.lt_trichotomy i j with c | c | c
        · have := hp i j hi hj c; omega
        · subst c; rfl
        · have := hp j i hj hi c; omega
      subst this
      rw [hA] at hA2
      cases hA2
    rw [this]; rfl
end Go.Proofs.Ytaainefdjbmekaa.Sk
