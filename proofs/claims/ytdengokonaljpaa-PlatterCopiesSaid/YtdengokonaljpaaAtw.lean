/- The program's platter among slices that a statement keeps: contracts for the walks of the statements. -/
import Derived.Test.YtdengokonaljpaaFull
import Derived.Test.YtdengokonaljpaaDwrite2
namespace Go.Proofs.Ytdengokonaljpaa
open Go.RowKit Go.Maps

/-- Block p is the program's platter in state st, all of it new since B; the blocks of ks hold their bytes, and are none of the platter's. -/
def At (B : Nat) (w : World) (p : Nat) (st : PSt) (ks : List (Nat × List Nat)) : Prop :=
  B ≤ w.heap.size ∧ ∃ F, Dev w F p st ∧ (∀ i, F i → B ≤ i) ∧ ∀ x ∈ ks, ∃ t, Blk w x.1 t (byts x.2).toArray ∧ ¬ F x.1
/-- The counts and lengths are small. -/
structure Small (st : PSt) : Prop where
  o : ∀ k, k ≤ 3 → st.ops k < 1000000
  c : st.cache.length < 1000000
  b : st.blocks.length < 1000000
  p : 0 < st.blocks.length

section
variable {B : Nat} {w w' : World} {p : Nat} {st : PSt} {ks : List (Nat × List Nat)}
theorem At.quiet (h : At B w p st ks) (hb : Below w.heap.size w w') : At B w' p st ks := by
  obtain ⟨hB, F, hd, hF, hk⟩ := h
  refine ⟨Nat.le_trans hB hb.size, F, hd.keep hb.size (fun b hb' => hb.block b (hd.lt b hb')), hF, fun x hx => ?_⟩
  obtain ⟨t, h1, h2⟩ := hk x hx
  exact ⟨t, h1.keep (hb.block _ h1.lt), h2⟩
theorem At.more (h : At B w p st ks) (hb : Below w.heap.size w w') {m : Nat} {t : TypeId} {l : List Nat} (hm : w.heap.size ≤ m) (hblk : Blk w' m t (byts l).toArray) : At B w' p st ((m, l) :: ks) := by
  obtain ⟨hB, F, hd, hF, hk⟩ := h
  refine ⟨Nat.le_trans hB hb.size, F, hd.keep hb.size (fun b hb' => hb.block b (hd.lt b hb')), hF, fun x hx => ?_⟩
  rcases List.mem_cons.1 hx with rfl | hx
  · exact ⟨t, hblk, fun hf => by have := hd.lt _ hf; simp at this; omega⟩
  · obtain ⟨t, h1, h2⟩ := hk x hx
    exact ⟨t, h1.keep (hb.block _ h1.lt), h2⟩
theorem At.less (h : At B w p st ks) {ks' : List (Nat × List Nat)} (hs : ∀ x ∈ ks', x ∈ ks) : At B w p st ks' := by
  obtain ⟨hB, F, hd, hF, hk⟩ := h
  exact ⟨hB, F, hd, hF, fun x hx => hk x (hs x hx)⟩
/-- Behind a call that may change the platter's own blocks. -/
theorem at_chg {F G : Nat → Prop} {st' : PSt} (hB : B ≤ w.heap.size) (hF : ∀ i, F i → B ≤ i) (hk : ∀ x ∈ ks, ∃ t, Blk w x.1 t (byts x.2).toArray ∧ ¬ F x.1)
    (hd' : Dev w' G p st') (hG : ∀ i, G i → F i ∨ w.heap.size ≤ i) (hc : Chg F w w') : At B w' p st' ks ∧ Below B w w' := by
  refine ⟨⟨Nat.le_trans hB hc.size, G, hd', fun i hi => ?_, fun x hx => ?_⟩, hc.below hB hF⟩
  · rcases hG i hi with h | h
    · exact hF i h
    · omega
  · obtain ⟨t, h1, h2⟩ := hk x hx
    refine ⟨t, h1.keep (hc.block _ h1.lt h2), fun hg => ?_⟩
    rcases hG _ hg with h | h
    · exact h2 h
    · have := h1.lt; omega
theorem ext_new {F : Nat → Prop} : ∀ i, Ext F w w' i → F i ∨ w.heap.size ≤ i := fun _ hi => hi.imp id fun h => h.1

theorem at_new (n : Nat) (h1 : 64 ≤ n) (h2 : n ≤ 8192) (w : World) :
    Calls Try.prog 10 #[.int .i64 (n : Int)] w fun e w' => e = .returned (.tuple #[.pointer (some ⟨w.heap.size + 1, 0, none⟩), .int .i64 0]) ∧ At w.heap.size w' (w.heap.size + 1) (newSt n) [] ∧ Below w.heap.size w w' :=
  (dnew_good n h1 h2 w).mono fun _ _ ⟨e, hd, hb⟩ => ⟨e, ⟨hb.size, _, hd, fun _ h => h.1, fun x hx => by simp at hx⟩, hb⟩
theorem at_full (h : At B w p st ks) (b : Nat) :
    Calls Try.prog 19 #[.int .u8 (b : Int)] w fun e w' => e = .returned (.slice (some ⟨w.heap.size, 0, none⟩) 64 64) ∧ At B w' p st ((w.heap.size, all64 b) :: ks) ∧ Below B w w' :=
  (full_any b w).mono fun _ _ ⟨e, hb, _, hblk⟩ => ⟨e, h.more hb (Nat.le_refl _) hblk, hb.mono h.1⟩
theorem at_write (h : At B w p st ks) (hs : Small st) (n : Int) {m : Nat} {l : List Nat} (hm : (m, l) ∈ ks) (h64 : l.length = 64) (hl : ∀ x ∈ l, x < 256) :
    Calls Try.prog 18 #[.pointer (some ⟨p, 0, none⟩), .int .i64 n, .slice (some ⟨m, 0, none⟩) 64 64] w fun e w' => e = .returned (.int .i64 (st.write n l).1) ∧ At B w' p (st.write n l).2 ks ∧ Below B w w' := by
  obtain ⟨hB, F, hd, hF, hk⟩ := h
  obtain ⟨t, h1, h2⟩ := hk _ hm
  have hc := dwrite_any p st F w hd (hs.o 2 (by omega)) hs.c hs.b n (some ⟨m, 0, none⟩) 64 l hl (.inr ⟨m, 0, rfl, h1.lt, fun i hi => by
    rw [Nat.zero_add, h1.cell i]; simp⟩) (fun b o e => by injection e with e; injection e with e _; subst e; exact h2)
  rw [h64] at hc
  exact hc.mono fun _ _ ⟨e, hd', hc'⟩ => ⟨e, at_chg hB hF hk hd' ext_new hc'⟩
theorem at_read (h : At B w p st ks) (hs : Small st) (n : Int) :
    Calls Try.prog 20 #[.pointer (some ⟨p, 0, none⟩), .int .i64 n] w fun e w' => ∃ v, e = .returned (.tuple #[v, .int .i64 (st.read n).1]) ∧ Below B w w' ∧
      (((st.read n).2 = [] ∧ v = .slice none 0 0 ∧ At B w' p (st.count 1) ks) ∨ ((st.read n).2.length = 64 ∧ ∃ m, v = .slice (some ⟨m, 0, none⟩) 64 64 ∧ w.heap.size ≤ m ∧ At B w' p (st.count 1) ((m, (st.read n).2) :: ks))) := by
  obtain ⟨hB, F, hd, hF, hk⟩ := h
  refine (dread_any p st F w hd (hs.o 1 (by omega)) hs.c hs.b n).mono ?_
  rintro e w' ⟨v, rfl, hd', hc', A, cap, rfl, hcap, hA, hr⟩
  obtain ⟨hat, hbl⟩ := at_chg hB hF hk hd' (fun _ h => .inl h) hc'
  refine ⟨_, rfl, hbl, ?_⟩
  rcases hr with ⟨h0, rfl⟩ | ⟨m, rfl, rfl, h64, hm, hm', hblk⟩
  · rw [hA rfl, h0]; exact .inl ⟨rfl, rfl, hat⟩
  · refine .inr ⟨h64, m, by rw [h64], hm, hat.1, F, hd', hF, fun x hx => ?_⟩
    rcases List.mem_cons.1 hx with rfl | hx
    · exact ⟨_, hblk, fun hf => by have := hd.lt _ hf; simp at this; omega⟩
    · obtain ⟨t, h1, h2⟩ := hk x hx
      exact ⟨t, h1.keep (hc'.block _ h1.lt h2), h2⟩
theorem at_sync (h : At B w p st ks) (hs : Small st) :
    Calls Try.prog 22 #[.pointer (some ⟨p, 0, none⟩)] w fun e w' => e = .returned (.int .i64 st.sync.1) ∧ At B w' p st.sync.2 ks ∧ Below B w w' := by
  obtain ⟨hB, F, hd, hF, hk⟩ := h
  exact (dsync_any p st F w hd (hs.o 3 (by omega)) hs.c hs.p).mono fun _ _ ⟨e, hd', hc'⟩ => ⟨e, at_chg hB hF hk hd' ext_new hc'⟩
theorem at_crash (h : At B w p st ks) (hs : Small st) {K : Option Addr} {keep : List Bool} {cap : Nat} (hsl : Sl w B K (bools keep)) :
    Calls Try.prog 21 #[.pointer (some ⟨p, 0, none⟩), .slice K keep.length cap] w fun e w' => e = .returned (.tuple #[]) ∧ At B w' p (st.crash keep) ks ∧ Below B w w' := by
  obtain ⟨hB, F, hd, hF, hk⟩ := h
  have hsl' : Sl w w.heap.size K (bools keep) := hsl.more hB
  exact (dcrash_any p st F w hd hs.c hs.p K cap keep hsl' (fun b o e hne hf => by
    rcases hsl with h0 | ⟨b', o', e', hb, _⟩
    · exact hne (by simpa [bools] using h0)
    · rw [e] at e'
      injection e' with e'
      injection e' with e1 _
      have := hF b hf
      omega)).mono fun _ _ ⟨e, hd', hc'⟩ => ⟨e, at_chg hB hF hk hd' ext_new hc'⟩
theorem at_cached (h : At B w p st ks) :
    Calls Try.prog 15 #[.pointer (some ⟨p, 0, none⟩)] w fun e w' => e = .returned (.int .i64 (st.cache.length : Int)) ∧ w' = w := by
  obtain ⟨hB, F, hd, hF, hk⟩ := h
  exact dcached hd
theorem at_count (h : At B w p st ks) (n : Int) :
    Calls Try.prog 23 #[.pointer (some ⟨p, 0, none⟩), .int .i64 n] w fun e w' => e = .returned (.int .i64 (st.counted n)) ∧ w' = w := by
  obtain ⟨hB, F, hd, hF, hk⟩ := h
  exact dcount hd n
theorem at_blocks (h : At B w p st ks) :
    Calls Try.prog 25 #[.pointer (some ⟨p, 0, none⟩)] w fun e w' => e = .returned (.int .i64 (st.blocks.length : Int)) ∧ w' = w := by
  obtain ⟨hB, F, hd, hF, hk⟩ := h
  exact dblocks hd
theorem at_conv (h : At B w p st ks) {m : Nat} {l : List Nat} (hm : (m, l) ∈ ks) (h64 : l.length = 64) :
    (convert 49 9 (.slice (some ⟨m, 0, none⟩) 64 64)).run Try.prog w = .ok (.string (str l)) w := by
  obtain ⟨hB, F, hd, hF, hk⟩ := h
  obtain ⟨t, h1, h2⟩ := hk _ hm
  exact conv_blk h1 h64
end
end Go.Proofs.Ytdengokonaljpaa
