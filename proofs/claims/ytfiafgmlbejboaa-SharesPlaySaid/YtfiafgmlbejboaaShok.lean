/- The state of runs in use beside the map of free blocks: what always holds (plain Lean, no program). -/
import Derived.Test.YtfiafgmlbejboaaShn
import Derived.Test.YtfiafgmlbejboaaRn2
namespace Go.Proofs.Ytfiafgmlbejboaa.Sh

/-- Runs in use: taken, apart from each other, ascending; what was in use before is known. -/
structure StOk (F : List Bool) (now was : List U) : Prop where
  held : ∀ u ∈ now, 1 ≤ u.2.1 ∧ u.1 + u.2.1 ≤ F.length ∧ ∀ j, u.1 ≤ j → j < u.1 + u.2.1 → F.getD j false = false
  apart : now.Pairwise fun u v => u.1 + u.2.1 ≤ v.1
  apart2 : was.Pairwise fun u v => u.1 + u.2.1 ≤ v.1
  old : ∀ u ∈ was, ∃ m, (u.1, u.2.1, m) ∈ now
theorem StOk.start (F : List Bool) : StOk F [] [] := ⟨by simp, List.Pairwise.nil, List.Pairwise.nil, by simp⟩
theorem idxV_neg {l : List U} {a : Int} (h : ∀ u ∈ l, (u.1 : Int) ≠ a) : idxV l a = -1 := by
  unfold idxV
  rw [idx_none fun j hj => h _ (by unfold at_; rw [List.getD_eq_getElem?_getD, List.getElem?_eq_getElem hj]; exact List.getElem_mem hj)]
/-- What below takes and leaves. -/
theorem below_split (l : List U) (a : Nat) (hp : l.Pairwise fun u v => u.1 ≤ v.1) : (∀ u ∈ l.take (below l a), u.1 < a) ∧ ∀ u ∈ l.drop (below l a), a ≤ u.1 := by
  induction l with
  | nil => simp
  | cons u l ih =>
    obtain ⟨h1, h2⟩ := List.pairwise_cons.1 hp
    unfold below
    rw [List.takeWhile_cons]
    by_cases c : u.1 < a
    · rw [if_pos (by simpa using c), List.length_cons, List.take_succ_cons, List.drop_succ_cons]
      obtain ⟨i1, i2⟩ := ih h2
      unfold below at i1 i2
      refine ⟨fun x hx => ?_, i2⟩
      rcases List.mem_cons.1 hx with rfl | hx
      · exact c
      · exact i1 x hx
    · rw [if_neg (by simpa using c)]
      refine ⟨by simp, fun x hx => ?_⟩
      rcases List.mem_cons.1 hx with rfl | hx
      · omega
      · have := h1 x hx; omega
/-- A run that was just taken becomes known. -/
theorem StOk.add {F G : List Bool} {now was : List U} (h : StOk F now was) {a n : Nat} (hn : 1 ≤ n) (hl : G.length = F.length) (hf : a + n ≤ F.length) (hfree : ∀ j, a ≤ j → j < a + n → F.getD j false = true) (hG : ∀ j, G.getD j false = if a ≤ j ∧ j < a + n then false else F.getD j false) :
    add now (a : Int) (n : Int) = (true, ins now a n) ∧ StOk G (ins now a n) was := by
  have hdis : ∀ u ∈ now, u.1 + u.2.1 ≤ a ∨ a + n ≤ u.1 := fun u hu => by
    obtain ⟨h1, h2, h3⟩ := h.held u hu
    rcases Nat.lt_or_ge a (u.1 + u.2.1) with c1 | c1
    · rcases Nat.lt_or_ge u.1 (a + n) with c2 | c2
      · exfalso
        have k1 := h3 (max a u.1) (by omega) (by omega)
        have k2 := hfree (max a u.1) (by omega) (by omega)
        rw [k1] at k2
        cases k2
      · exact .inr c2
    · exact .inl c1
  have hidx : idxV now (a : Int) = -1 := idxV_neg fun u hu e => by
    have := hdis u hu
    have := (h.held u hu).1
    omega
  have hasc : now.Pairwise fun u v => u.1 ≤ v.1 := h.apart.imp fun {u v} h => by omega
  obtain ⟨s1, s2⟩ := below_split now a hasc
  refine ⟨?_, ?_⟩
  · unfold Sh.add
    rw [if_neg (by rw [hidx]; omega), Int.toNat_natCast, Int.toNat_natCast]
  · have hmem : ∀ u, u ∈ ins now a n ↔ u ∈ now ∨ u = (a, n, 1) := fun u => by
      unfold ins
      rw [List.mem_append, List.mem_append, List.mem_singleton]
      constructor
      · rintro ((hu | hu) | hu)
        · exact .inl (List.mem_of_mem_take hu)
        · exact .inr hu
        · exact .inl (List.mem_of_mem_drop hu)
      · rintro (hu | hu)
        · rw [← List.take_append_drop (below now a) now, List.mem_append] at hu
          rcases hu with hu | hu
          · exact .inl (.inl hu)
          · exact .inr hu
        · exact .inl (.inr hu)
    refine ⟨fun u hu => ?_, ?_, h.apart2, fun u hu => ?_⟩
    · rcases (hmem u).1 hu with hu | rfl
      · obtain ⟨h1, h2, h3⟩ := h.held u hu
        refine ⟨h1, by omega, fun j j1 j2 => ?_⟩
        rw [hG]
        split
        · rfl
        · exact h3 j j1 j2
      · exact ⟨hn, by show a + n ≤ G.length; omega, fun j j1 j2 => by rw [hG, if_pos ⟨j1, j2⟩]⟩
    · unfold ins
      refine List.pairwise_append.2 ⟨List.pairwise_append.2 ⟨h.apart.sublist (List.take_sublist _ _), List.pairwise_singleton _ _, fun u hu v hv => ?_⟩, h.apart.sublist (List.drop_sublist _ _), fun u hu v hv => ?_⟩
      · rw [List.mem_singleton.1 hv]
        have := s1 u hu
        have := hdis u (List.mem_of_mem_take hu)
        have := (h.held u (List.mem_of_mem_take hu)).1
        show u.1 + u.2.1 ≤ a
        omega
      · rcases List.mem_append.1 hu with hu | hu
        · have hh := h.apart
          rw [← List.take_append_drop (below now a) now] at hh
          exact (List.pairwise_append.1 hh).2.2 u hu v hv
        · rw [List.mem_singleton.1 hu]
          have := s2 v hv
          have := hdis v (List.mem_of_mem_drop hv)
          have := (h.held v (List.mem_of_mem_drop hv)).1
          show a + n ≤ v.1
          omega
    · obtain ⟨m, hm⟩ := h.old u hu
      exact ⟨m, (hmem _).2 (.inl hm)⟩
theorem setU_mem {l : List U} {k m : Nat} (u : U) (hu : u ∈ setU l k m) : ∃ m', (u.1, u.2.1, m') ∈ l ∨ k ≥ l.length := by
  unfold setU at hu
  obtain ⟨i, hi, rfl⟩ := List.mem_iff_getElem.1 hu
  rw [List.getElem_set]
  rw [List.length_set] at hi
  split
  · next e =>
    subst e
    refine ⟨(at_ l k).2.2, .inl ?_⟩
    have : at_ l k = l[k] := by unfold at_; rw [List.getD_eq_getElem?_getD, List.getElem?_eq_getElem hi]; rfl
    show ((at_ l k).1, (at_ l k).2.1, (at_ l k).2.2) ∈ l
    rw [this]
    exact List.getElem_mem hi
  · exact ⟨l[i].2.2, .inl (List.getElem_mem hi)⟩
/-- Uses change, the runs do not. -/
theorem setU_runs (l : List U) (k m : Nat) : (setU l k m).map (fun u => (u.1, u.2.1)) = l.map fun u => (u.1, u.2.1) := by
  unfold setU
  rcases Nat.lt_or_ge k l.length with hk | hk
  · refine List.ext_getElem (by simp) fun i h1 h2 => ?_
    rw [List.getElem_map, List.getElem_map, List.getElem_set]
    split
    · next e =>
      subst e
      unfold at_
      rw [List.getD_eq_getElem?_getD, List.getElem?_eq_getElem hk]
      rfl
    · rfl
  · rw [List.set_eq_of_length_le hk]
theorem StOk.runs {F : List Bool} {now now' was : List U} (h : StOk F now was) (hr : now'.map (fun u => (u.1, u.2.1)) = now.map fun u => (u.1, u.2.1)) : StOk F now' was := by
  have hm : ∀ u : U, u ∈ now' → ∃ m, (u.1, u.2.1, m) ∈ now := fun u hu => by
    have : (u.1, u.2.1) ∈ now'.map fun u => (u.1, u.2.1) := List.mem_map.2 ⟨u, hu, rfl⟩
    rw [hr] at this
    obtain ⟨v, hv, e⟩ := List.mem_map.1 this
    injection e with e1 e2
    exact ⟨v.2.2, by rw [← e1, ← e2]; exact hv⟩
  have hm' : ∀ u : U, u ∈ now → ∃ m, (u.1, u.2.1, m) ∈ now' := fun u hu => by
    have : (u.1, u.2.1) ∈ now.map fun u => (u.1, u.2.1) := List.mem_map.2 ⟨u, hu, rfl⟩
    rw [← hr] at this
    obtain ⟨v, hv, e⟩ := List.mem_map.1 this
    injection e with e1 e2
    exact ⟨v.2.2, by rw [← e1, ← e2]; exact hv⟩
  refine ⟨fun u hu => ?_, ?_, h.apart2, fun u hu => ?_⟩
  · obtain ⟨m, hmm⟩ := hm u hu
    exact h.held (u.1, u.2.1, m) hmm
  · have h1 : (now.map fun u : U => (u.1, u.2.1)).Pairwise fun r q => r.1 + r.2 ≤ q.1 := List.pairwise_map.2 h.apart
    rw [← hr] at h1
    exact List.pairwise_map.1 h1
  · obtain ⟨m, hmm⟩ := h.old u hu
    obtain ⟨m', h'⟩ := hm' (u.1, u.2.1, m) hmm
    exact ⟨m', h'⟩
theorem change_runs (l : List U) (a : Int) (more : Bool) : (change l a more).2.map (fun u => (u.1, u.2.1)) = l.map fun u => (u.1, u.2.1) := by
  unfold change
  cases idx l a with
  | none => rfl
  | some k =>
    simp only
    split
    · rfl
    · exact setU_runs _ _ _
theorem StOk.change {F : List Bool} {now was : List U} (h : StOk F now was) (a : Int) (more : Bool) : StOk F (change now a more).2 was := h.runs (change_runs now a more)
/-- Runs that are taken, and apart. -/
def Held (F : List Bool) (l : List U) : Prop := (∀ u ∈ l, 1 ≤ u.2.1 ∧ u.1 + u.2.1 ≤ F.length ∧ ∀ j, u.1 ≤ j → j < u.1 + u.2.1 → F.getD j false = false) ∧ l.Pairwise fun u v => u.1 + u.2.1 ≤ v.1
theorem StOk.heldL {F : List Bool} {now was : List U} (h : StOk F now was) {l : List U} (hs : l.Sublist now) : Held F l := ⟨fun u hu => h.held u (hs.subset hu), h.apart.sublist hs⟩
theorem give_run {F : List Bool} {u : U} (h1 : 1 ≤ u.2.1) (h2 : u.1 + u.2.1 ≤ F.length) (h3 : ∀ j, u.1 ≤ j → j < u.1 + u.2.1 → F.getD j false = false) : Rn.give F (u.1 : Int) (u.2.1 : Int) = (true, Rn.setN F u.1 true u.2.1) := by
  have ha : Rn.all F (u.1 : Int) (u.2.1 : Int) (!true) = true := (Rn.all_iff _ _ _ _).2 ⟨by omega, by omega, by omega, by omega, fun k hk => by
    rw [Int.toNat_natCast] at hk ⊢
    exact h3 _ (by omega) (by omega)⟩
  unfold Rn.give Rn.change
  rw [if_pos ha, Int.toNat_natCast, Int.toNat_natCast]
theorem giveAll_at : ∀ {l : List U} {F : List Bool}, Held F l → (giveAll F l).length = F.length ∧ ∀ j, ((∃ u ∈ l, u.1 ≤ j ∧ j < u.1 + u.2.1) → (giveAll F l).getD j false = true) ∧ ((¬ ∃ u ∈ l, u.1 ≤ j ∧ j < u.1 + u.2.1) → (giveAll F l).getD j false = F.getD j false)
  | [], F, _ => ⟨rfl, fun j => ⟨fun ⟨u, hu, _⟩ => by simp at hu, fun _ => rfl⟩⟩
  | u :: l, F, h => by
    obtain ⟨h1, h2, h3⟩ := h.1 u (List.mem_cons_self ..)
    obtain ⟨p1, p2⟩ := List.pairwise_cons.1 h.2
    have hg := give_run h1 h2 h3
    have hat := fun j => Rn.setN_at F u.1 true j u.2.1 h2
    have hl := Rn.setN_len F u.1 true u.2.1
    have hstep : giveAll F (u :: l) = giveAll (Rn.setN F u.1 true u.2.1) l := by
      unfold giveAll
      rw [List.foldl_cons, hg]
    obtain ⟨i1, i2⟩ := giveAll_at (l := l) (F := Rn.setN F u.1 true u.2.1) ⟨fun v hv => by
      obtain ⟨k1, k2, k3⟩ := h.1 v (List.mem_cons_of_mem _ hv)
      have := p1 v hv
      exact ⟨k1, by omega, fun j j1 j2 => by rw [hat, if_neg (by omega)]; exact k3 j j1 j2⟩, p2⟩
    rw [hstep]
    refine ⟨by omega, fun j => ⟨fun ⟨v, hv, hj⟩ => ?_, fun hn => ?_⟩⟩
    · rcases List.mem_cons.1 hv with rfl | hv
      · by_cases c : ∃ x ∈ l, x.1 ≤ j ∧ j < x.1 + x.2.1
        · exact (i2 j).1 c
        · rw [(i2 j).2 c, hat, if_pos hj]
      · exact (i2 j).1 ⟨v, hv, hj⟩
    · rw [(i2 j).2 fun ⟨v, hv, hj⟩ => hn ⟨v, List.mem_cons_of_mem _ hv, hj⟩, hat, if_neg fun hj => hn ⟨u, List.mem_cons_self .., hj⟩]
/-- What is not given back stays. -/
theorem StOk.given {F : List Bool} {now was : List U} (h : StOk F now was) {l keep : List U} (hl : l.Sublist now) (hk : keep.Sublist now) (hd : ∀ u ∈ l, u ∉ keep) : StOk (giveAll F l) keep keep := by
  obtain ⟨g1, g2⟩ := giveAll_at (h.heldL hl)
  refine ⟨fun u hu => ?_, h.apart.sublist hk, h.apart.sublist hk, fun u hu => ⟨u.2.2, hu⟩⟩
  obtain ⟨k1, k2, k3⟩ := h.held u (hk.subset hu)
  refine ⟨k1, by omega, fun j j1 j2 => ?_⟩
  rw [(g2 j).2 fun ⟨v, hv, v1, v2⟩ => ?_]
  · exact k3 j j1 j2
  · have hne : v ≠ u := fun e => hd v hv (e ▸ hu)
    have hvn := hl.subset hv
    have hun := hk.subset hu
    have key : v.1 + v.2.1 ≤ u.1 ∨ u.1 + u.2.1 ≤ v.1 := by
      have := h.apart
      rw [List.pairwise_iff_getElem] at this
      obtain ⟨a, ha, rfl⟩ := List.mem_iff_getElem.1 hvn
      obtain ⟨b, hb, rfl⟩ := List.mem_iff_getElem.1 hun
      rcases Nat.lt_trichotomy a b with c | c | c
      · exact .inl (this a b ha hb c)
      · subst c; exact absurd rfl hne
      · exact .inr (this b a hb ha c)
    omega
theorem StOk.settle {F : List Bool} {now was : List U} (h : StOk F now was) : StOk (giveAll F (lates now)) (used now) (used now) :=
  h.given List.filter_sublist List.filter_sublist fun u hu hk => by
    have h1 := (List.mem_filter.1 hu).2
    have h2 := (List.mem_filter.1 hk).2
    rw [h1] at h2
    cases h2
theorem StOk.back {F : List Bool} {now was : List U} (h : StOk F now was) : StOk (giveAll F (news now was)) was was := by
  have hsub : (news now was).Sublist now := List.filter_sublist
  obtain ⟨g1, g2⟩ := giveAll_at (h.heldL hsub)
  refine ⟨fun u hu => ?_, h.apart2, h.apart2, fun u hu => ⟨u.2.2, hu⟩⟩
  obtain ⟨m, hm⟩ := h.old u hu
  obtain ⟨k1, k2, k3⟩ := h.held _ hm
  dsimp only at k1 k2 k3
  refine ⟨k1, by omega, fun j j1 j2 => ?_⟩
  rw [(g2 j).2 fun ⟨v, hv, v1, v2⟩ => ?_]
  · exact k3 j j1 j2
  · obtain ⟨hvn, hvw⟩ := List.mem_filter.1 hv
    have hne : v.1 ≠ u.1 := fun e => by
      have : (was.any fun o => decide (o.1 = v.1)) = true := List.any_eq_true.2 ⟨u, hu, by simp [e]⟩
      rw [this] at hvw
      cases hvw
    have key : v.1 + v.2.1 ≤ u.1 ∨ u.1 + u.2.1 ≤ v.1 := by
      have := h.apart
      rw [List.pairwise_iff_getElem] at this
      obtain ⟨a, ha, hae⟩ := List.mem_iff_getElem.1 hvn
      obtain ⟨b, hb, hbe⟩ := List.mem_iff_getElem.1 hm
      rcases Nat.lt_trichotomy a b with c | c | c
      · have := this a b ha hb c
        rw [hae, hbe] at this
        exact .inl this
      · subst c
        rw [hae] at hbe
        exact absurd (congrArg (·.1) hbe) hne
      · have := this b a hb ha c
        rw [hae, hbe] at this
        exact .inr this
    omega
end Go.Proofs.Ytfiafgmlbejboaa.Sh
