/- Both platters in a statement's walk. -/
import Derived.Test.YtdengokonaljpaaCopy2
import Derived.Test.YtdengokonaljpaaPkp
namespace Go.Proofs.Ytdengokonaljpaa
open Go.RowKit Go.Maps

/-- Both platters in one state, all of it new since w. -/
def Play (w wr : World) (p m : Nat) (st : PSt) : Prop := ∃ F G, Duo wr F G p m st ∧ (∀ i, F i ∨ G i → w.heap.size ≤ i) ∧ Below w.heap.size w wr
section
variable {w wr w' : World} {p m : Nat} {st st' : PSt} {N : Nat}
theorem Play.below (h : Play w wr p m st) : Below w.heap.size w wr := by obtain ⟨_, _, _, _, h⟩ := h; exact h
theorem Play.step (h : Play w wr p m st) (hb : Below wr.heap.size wr w') : Play w w' p m st := by
  obtain ⟨F, G, hd, hF, hbw⟩ := h
  exact ⟨F, G, hd.below hb, hF, hbw.trans (hb.mono hbw.size)⟩
theorem play_fin {F G : Nat → Prop} (hF : ∀ i, F i ∨ G i → w.heap.size ≤ i) (hbw : Below w.heap.size w wr) (hf : Fin wr w' F G p m st') : Play w w' p m st' := by
  obtain ⟨F', G', hd, h1, h2, hc⟩ := hf
  have hz := hbw.size
  refine ⟨F', G', hd, fun i hi => ?_, hbw.trans (hc.below hz (fun i hi => hF i hi))⟩
  rcases hi with hi | hi
  · rcases h1 i hi with h | h
    · exact hF i (.inl h)
    · omega
  · rcases h2 i hi with h | h
    · exact hF i (.inr h)
    · omega
theorem play_do (h : Play w wr p m st) (hf : Fair st N) (hN : N < 1000) {x : Deed} (hx : x.ok w w.heap.size) (hk : x.keep.length ≤ 200) (hq : x.fl.length ≤ 20) :
    Calls Try.prog 12 #[.pointer (some ⟨p, 0, none⟩), .pointer (some ⟨m, 0, none⟩), .agg x.cells] wr fun e w' => e = .returned (.bool true) ∧ Play w w' p m (st.deed x) := by
  obtain ⟨F, G, hd, hF, hbw⟩ := h
  exact (do_any hd hf hN (hx.below hbw) hbw.size hF hk hq).mono fun _ _ ⟨e, hfin⟩ => ⟨e, play_fin hF hbw hfin⟩
theorem play_same (h : Play w wr p m st) (hf : Fair st N) :
    Calls Try.prog 13 #[.pointer (some ⟨p, 0, none⟩), .pointer (some ⟨m, 0, none⟩)] wr fun e w' => e = .returned (.bool true) ∧ Play w w' p m st := by
  have h' := h
  obtain ⟨F, G, hd, hF, hbw⟩ := h
  refine (same_any hd hf.z).mono fun _ _ ⟨e, n, hn⟩ => ⟨e, ?_⟩
  subst hn
  exact h'.step ⟨rfl, rfl, rfl, Nat.le_refl _, fun _ _ => rfl⟩
theorem play_new {wa : World} (ha : Below w.heap.size w wa) {n : Nat} (h1 : 64 ≤ n) (h2 : n ≤ 8192) :
    Calls Try.prog 10 #[.int .i64 (n : Int)] wa fun e w1 => e = .returned (.tuple #[.pointer (some ⟨wa.heap.size + 1, 0, none⟩), .int .i64 0]) ∧
      Calls Try.prog 11 #[.int .i64 (n : Int)] w1 fun e w2 => e = .returned (.tuple #[.pointer (some ⟨w1.heap.size, 0, none⟩), .int .i64 0]) ∧ Play w w2 (wa.heap.size + 1) w1.heap.size (newSt n) := by
  refine (dnew_good n h1 h2 wa).mono ?_
  rintro e w1 ⟨he, hd, hb1⟩
  refine ⟨he, (rnew_good n h1 h2 w1).mono ?_⟩
  rintro e2 w2 ⟨he2, hr, hb2⟩
  have z0 := ha.size
  have z1 := hb1.size
  refine ⟨he2, _, _, ⟨hd.keep hb2.size (fun b hb => hb2.block b (hd.lt b hb)), hr, fun i hi hg => by omega⟩, fun i hi => ?_, (ha.trans (hb1.mono z0)).trans (hb2.mono (by omega))⟩
  rcases hi with hi | hi <;> omega
theorem play_cached (h : Play w wr p m st) : Calls Try.prog 15 #[.pointer (some ⟨p, 0, none⟩)] wr fun e w' => e = .returned (.int .i64 (st.cache.length : Int)) ∧ w' = wr := by
  obtain ⟨F, G, hd, _, _⟩ := h
  exact dcached hd.dev
def PCopy (w : World) (p m : Nat) (st : PSt) (e : Ending) (w' : World) : Prop := ∃ q, e = .returned (.pointer (some ⟨q, 0, none⟩)) ∧ Play w w' p m st ∧ Calls Try.prog 15 #[.pointer (some ⟨q, 0, none⟩)] w' fun e w'' => e = .returned (.int .i64 (st.cache.length : Int)) ∧ w'' = w'
theorem play_copy (h : Play w wr p m st) (hf : Fair st N) (hN : N < 1000) : Calls Try.prog 14 #[.pointer (some ⟨p, 0, none⟩)] wr (PCopy w p m st) := by
  have h' := h
  obtain ⟨F, G, hd, hF, hbw⟩ := h
  refine (copy_any hd.dev (by have := hf.b.2; omega) (by have := hf.c; omega)).mono ?_
  rintro e w' ⟨q, F', rfl, hq, _, hb⟩
  exact ⟨q, rfl, h'.step hb, dcached hq⟩
/-- The faults are struck on both. -/
theorem play_nofail (h : Play w wr p m st) (hf : Fair st N) (hN : N < 1000) :
    Calls Try.prog 16 #[.pointer (some ⟨p, 0, none⟩), .slice none 0 0] wr fun e w1 => e = .returned (.tuple #[]) ∧
      Calls Try.prog 17 #[.pointer (some ⟨m, 0, none⟩), .slice none 0 0] w1 fun e w2 => e = .returned (.tuple #[]) ∧ Play w w2 p m (st.plans []) := by
  obtain ⟨F, G, hd, hF, hbw⟩ := h
  refine (p_fail hd hf hN none 0 [] (by decide) (by simp) (.inl rfl) (by simp)).mono ?_
  rintro e w1 ⟨he, hm⟩
  exact ⟨he, (m_fail hm none 0 (by decide) (Nat.le_refl _) (fun _ => rfl) (.inl rfl)).mono fun _ _ ⟨e, hfin⟩ => ⟨e, play_fin hF hbw hfin⟩⟩
theorem play_cell (h : Play w wr p m st) : ∃ A c, wr.cell? ⟨m, 0, none⟩ = some (.slice A st.blocks.length c) := by
  obtain ⟨F, G, hd, _, _⟩ := h
  obtain ⟨_, _, Bv, Cv, Pv, bs, vs, hblk, hB, _⟩ := hd.ref
  obtain ⟨A, c, rfl, _⟩ := hB.form
  exact ⟨A, c, hblk.cell 0⟩
end
theorem fair_deeds {st : PSt} {l : List Deed} (h : Fair st 0) : ∀ j, j ≤ l.length → (∀ i (hi : i < l.length), i < j → l[i].fl.length ≤ 20) → Fair (deeds st l j) j
  | 0, _, _ => h
  | j + 1, hj, hq => by
    rw [deeds_next (by omega)]
    exact (fair_deeds h j (by omega) fun i hi hij => hq i hi (by omega)).deed _ (hq j (by omega) (by omega))
theorem fair_reads {st : PSt} {N : Nat} (h : Fair st N) : ∀ r, Fair (reads st r) (N + r)
  | 0 => h
  | r + 1 => (fair_reads h r).count (by decide)
theorem fair_plans {st : PSt} {N : Nat} (h : Fair st N) : Fair (st.plans []) N :=
  ⟨fun j hj => ⟨(h.o j hj).1, Nat.zero_le _⟩, h.c, Nat.zero_le _, h.b, h.z⟩
/-- A read as the statements ask it. -/
def readOf (i : Nat) : Deed := ⟨4, i, 0, 0, none, 0, [], none, 0, []⟩
theorem readOf_ok (i : Nat) (hi : i < 1000) (w : World) : (readOf i).ok w w.heap.size :=
  ⟨by show (0 : Nat) < 256; decide, by show (0 : Nat) < 4294967296; decide, by show (Lit.int .i64 4).wf = true; decide, wf_i64 (by show (_ : Int) ≤ (i : Int); omega) (by show (i : Int) ≤ _; omega), Nat.le_refl _, fun _ => rfl, .inl rfl, Nat.le_refl _, fun _ => rfl, .inl rfl, by simp [readOf], Nat.zero_le _, Nat.zero_le _⟩
theorem deed_readOf (st : PSt) (i : Nat) : st.deed (readOf i) = st.count 1 := by
  unfold PSt.deed
  rw [if_neg (by show ¬ (0 ≤ (4 : Int) ∧ (4 : Int) ≤ 3); omega), if_pos (.inl rfl)]
theorem play_read {w wr : World} {p m : Nat} {st : PSt} {N : Nat} (h : Play w wr p m st) (hf : Fair st N) (hN : N < 1000) (i : Nat) (hi : i < 1000) :
    Calls Try.prog 12 #[.pointer (some ⟨p, 0, none⟩), .pointer (some ⟨m, 0, none⟩), .agg #[.int .i64 4, .int .i64 (i : Int), .int .u8 0, .int .u32 0, .slice none 0 0, .slice none 0 0]] wr fun e w' => e = .returned (.bool true) ∧ Play w w' p m (st.count 1) := by
  rw [← deed_readOf st i]
  exact play_do (x := readOf i) h hf hN (readOf_ok i hi w) (Nat.zero_le _) (Nat.zero_le _)
end Go.Proofs.Ytdengokonaljpaa
