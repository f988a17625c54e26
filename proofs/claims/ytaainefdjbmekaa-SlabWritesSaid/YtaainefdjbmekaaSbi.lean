/- A block of one byte; bytes as a string. The program's platter: Write, as a whole. The program's platter among slices that a statement keeps: contracts for the walks of the statements. States in which no fault is planned. Free blocks as a list of Bools: the runs, what is taken, marked, given (no walk). Reference counts with deferred freeing: what the runs in use are (plain Lean, no program). -/
import Derived.Test.YtaainefdjbmekaaSba
import Derived.Test.YtaainefdjbmekaaSbd
import Derived.Test.YtaainefdjbmekaaSbg
import Derived.Test.YtaainefdjbmekaaSbh
import Derived.Laws.BytesArg
namespace Go.Proofs.Ytaainefdjbmekaa
open Go.RowKit Go.Maps
def half (b j : Nat) : List Nat := List.replicate j b ++ List.replicate (64 - j) 0
end Go.Proofs.Ytaainefdjbmekaa
namespace Go.Proofs.Ytaainefdjbmekaa
open Go.RowKit Go.Maps
theorem enter_write1 (cap : Array Value) (w : World) : (callFunc 49 cap).run Try.prog w = .ok (.enter 49 cap) w := by
  first | kernel_rfl | simp [go_sem, Try.func49]
set_option maxHeartbeats 2000000 in
theorem dwrite_any (g : Nat) (st : PSt) (F : Nat → Prop) (w : World) (h : Dev w F g st) (hs : st.ops 2 < 1000000) (hcl : st.cache.length < 1000000) (hbl : st.blocks.length < 1000000)
    (n : Int) (B : Option Addr) (cap : Nat) (l : List Nat) (hl : ∀ x ∈ l, x < 256) (hsl : Sl w w.heap.size B (byts l)) (hdis : ∀ b o, B = some ⟨b, o, none⟩ → ¬ F b) :
    Calls Try.prog 29 #[.pointer (some ⟨g, 0, none⟩), .int .i64 n, .slice B l.length cap] w fun e w' =>
      e = .returned (.int .i64 (st.write n l).1) ∧ Dev w' (Ext F w w') g (st.write n l).2 ∧ Chg F w w' := by
  have hmf : ∀ (fn : Fn) (first cap : Array Value) (w : World), (Instr.makeFunc fn first cap).run Try.prog w = .ok (.func fn first cap) w := fun _ _ _ _ => rfl
  generalize hw1 : ((w.alloc (.cells #[.pointer (some ⟨g, 0, none⟩)] 25)).alloc (.cells #[.int .i64 n] 3)).alloc (.cells #[.slice B l.length cap] 22) = w1
  have hz1 : w1.heap.size = w.heap.size + 3 := by rw [← hw1]; simp
  have hb1 : Below w.heap.size w w1 := by rw [← hw1]; exact ((((Below.refl _ _).alloc (Nat.le_refl _) _).alloc (by simp) _).alloc (by simp; omega) _)
  have hF := h.lt
  have h1 : Dev w1 F g st := h.keep (by omega) (fun b hb => hb1.block b (hF b hb))
  have e3 : w1.cell? ⟨w.heap.size, 0, none⟩ = some (.pointer (some ⟨g, 0, none⟩)) := by rw [← hw1]; simp [go_sem]
  have e4 : w1.cell? ⟨w.heap.size + 1, 0, none⟩ = some (.int .i64 n) := by rw [← hw1]; simp [go_sem]
  have e5 : w1.cell? ⟨w.heap.size + 2, 0, none⟩ = some (.slice B l.length cap) := by rw [← hw1]; simp [go_sem]
  by_cases hhit : (st.count 2).hit 2 = true
  · have hw : st.write n l = (6, st.count 2) := by unfold PSt.write; rw [if_pos hhit]
    rw [hw]
    have hc := Lib.hid (dev_hit h1 2 (fun w h => begin2_hit g st F w h hs hhit) 49 #[.pointer (some ⟨w.heap.size, 0, none⟩), .pointer (some ⟨w.heap.size + 1, 0, none⟩), .pointer (some ⟨w.heap.size + 2, 0, none⟩)])
    go_enter Try.func29, Try.ntmps29
    go_wp2_with fail
    refine hc.out.mono ?_
    rintro e w' ⟨rfl, h2, hc2⟩
    go_wp2_with fail
    go_ret
    exact ⟨rfl, h2.mono (fun _ h => .inl h) (ext_lt hF (Nat.le_trans hb1.size hc2.size)), (Chg.of_below F hb1).then_ hc2⟩
  have hno : (st.count 2).hit 2 = false := by simpa using hhit
  have hFn : ∀ i, w.heap.size ≤ i → ¬ F i := fun i hi hf => by have := hF i hf; omega
  have fin : ∀ (code : Int) (st2 : PSt), st.write n l = (code, st2) →
      (∀ w2, Dev w2 F g (st.count 2) → Chg F (opW w1) w2 → Calls Try.prog 49 #[.pointer (some ⟨w.heap.size, 0, none⟩), .pointer (some ⟨w.heap.size + 1, 0, none⟩), .pointer (some ⟨w.heap.size + 2, 0, none⟩)] w2 fun e w3 => e = .returned (.int .i64 code) ∧ Dev w3 (Ext F w2 w3) g st2 ∧ Chg F w2 w3 ∧ True) →
      Calls Try.prog 29 #[.pointer (some ⟨g, 0, none⟩), .int .i64 n, .slice B l.length cap] w fun e w' => e = .returned (.int .i64 (st.write n l).1) ∧ Dev w' (Ext F w w') g (st.write n l).2 ∧ Chg F w w' := by
    intro code st2 hw hd
    rw [hw]
    have hc := Lib.hid (dev_ok h1 (fun _ h => h) h1.lt 2 code (fun w h => begin2_no g st F w h hs hno) 49 _ (enter_write1 _) (fun _ => True) hd (fun _ _ _ _ => trivial))
    clear hd
    go_enter Try.func29, Try.ntmps29
    go_wp2_with (go_at_call 48; refine hc.out.mono ?_; rintro e w' ⟨rfl, h2, hc2, _⟩)
    go_ret
    refine ⟨rfl, h2.mono (fun b hb => ?_) (ext_lt hF (Nat.le_trans hb1.size hc2.size)), (Chg.of_below F hb1).then_ hc2⟩
    rcases hb with hb | hb
    · exact .inl hb
    · exact .inr ⟨by omega, hb.2⟩
  have keepc : ∀ {w2 : World}, Chg F (opW w1) w2 → ∀ i, i < w1.heap.size → ¬ F i → w2.heap[i]? = w1.heap[i]? := fun hc i hi hn => (hc.block i (by rw [opW_size]; omega) hn).trans (Below.heap_alloc _ _ _ hi)
  have boxes : ∀ {w2 : World}, Chg F (opW w1) w2 → w2.cell? ⟨w.heap.size, 0, none⟩ = some (.pointer (some ⟨g, 0, none⟩)) ∧ w2.cell? ⟨w.heap.size + 1, 0, none⟩ = some (.int .i64 n) ∧ w2.cell? ⟨w.heap.size + 2, 0, none⟩ = some (.slice B l.length cap) := fun hc =>
    ⟨(World.cell?_of_block (keepc hc w.heap.size (by omega) (hFn _ (Nat.le_refl _)))).trans e3, (World.cell?_of_block (keepc hc (w.heap.size + 1) (by omega) (hFn _ (by omega)))).trans e4, (World.cell?_of_block (keepc hc (w.heap.size + 2) (by omega) (hFn _ (by omega)))).trans e5⟩
  by_cases hbad : n < 0 ∨ (st.blocks.length : Int) ≤ n ∨ l.length ≠ 64
  · refine fin 1 (st.count 2) (by unfold PSt.write; rw [if_neg hhit, if_pos hbad]) fun w2 h2 hc2 => ?_
    obtain ⟨x3, x4, x5⟩ := boxes hc2
    obtain ⟨Bv, Cv, bm, Pm, D, E, hS⟩ := h2
    refine (write1_bad hS _ _ _ n B l.length cap x3 x4 x5 hbad).mono ?_
    rintro e w3 ⟨rfl, rfl⟩
    exact ⟨rfl, (Dev.mono ⟨_, _, _, _, _, _, hS⟩ (fun _ h => .inl h) (ext_lt hS.lt (Nat.le_refl _))), Chg.refl _ _, trivial⟩
  · obtain ⟨k, rfl⟩ : ∃ k : Nat, n = k := ⟨n.toNat, by omega⟩
    have hkl : k < st.blocks.length := by omega
    have h64 : l.length = 64 := by omega
    refine fin 0 ((st.count 2).put k l) (by unfold PSt.write; rw [if_neg hhit, if_neg hbad, Int.toNat_natCast]) fun w2 h2 hc2 => ?_
    obtain ⟨x3, x4, x5⟩ := boxes hc2
    obtain ⟨Bv, Cv, bm, Pm, D, E, hS⟩ := h2
    rcases hsl with h0 | ⟨b, o, rfl, hb, hcell⟩
    · exfalso; rw [← List.length_eq_zero_iff, byts_length] at h0; omega
    rw [h64] at x5
    have hbF := hdis b o rfl
    have hrange : w2.rangeAt b o (byts l) := fun j v hv => by
      have hj : j < (byts l).length := (List.getElem?_eq_some_iff.1 hv).1
      have := hcell j hj
      rw [(World.cell?_of_block ((keepc hc2 b (by omega) hbF).trans (hb1.block b hb))).trans this, ← hv, List.getElem?_eq_getElem hj]
    refine (write1_good hS hcl hbl _ _ _ k b o cap l h64 hl x3 x4 x5 hkl ⟨hFn _ (Nat.le_refl _), hFn _ (by omega), hFn _ (by omega), hbF⟩ hrange).mono ?_
    rintro e w3 ⟨rfl, h3, hc3⟩
    exact ⟨rfl, h3, hc3, trivial⟩
end Go.Proofs.Ytaainefdjbmekaa
namespace Go.Proofs.Ytaainefdjbmekaa
open Go.RowKit Go.Maps
/-- Block p is the program's platter in state st, all of it new since B; the blocks of ks hold their bytes, and are none of the platter's. -/
def At (B : Nat) (w : World) (p : Nat) (st : PSt) (ks : List (Nat × List Nat)) : Prop :=
  B ≤ w.heap.size ∧ ∃ F, Dev w F p st ∧ (∀ i, F i → B ≤ i) ∧ ∀ x ∈ ks, ∃ t, Blk w x.1 t (byts x.2).toArray ∧ ¬ F x.1
/-- The counts and lengths are small. -/
structure Small (st : PSt) : Prop where
  o : ∀ k, k ≤ 3 → st.ops k < 1000000
  c : st.cache.length < 1000000
  b : st.blocks.length < 1000000
  p : 0 < st.blocks.length
section
variable {B : Nat} {w w' : World} {p : Nat} {st : PSt} {ks : List (Nat × List Nat)}
theorem At.quiet (h : At B w p st ks) (hb : Below w.heap.size w w') : At B w' p st ks := by
  obtain ⟨hB, F, hd, hF, hk⟩ := h
  refine ⟨Nat.le_trans hB hb.size, F, hd.keep hb.size (fun b hb' => hb.block b (hd.lt b hb')), hF, fun x hx => ?_⟩
  obtain ⟨t, h1, h2⟩ := hk x hx
  exact ⟨t, h1.keep (hb.block _ h1.lt), h2⟩
theorem At.more (h : At B w p st ks) (hb : Below w.heap.size w w') {m : Nat} {t : TypeId} {l : List Nat} (hm : w.heap.size ≤ m) (hblk : Blk w' m t (byts l).toArray) : At B w' p st ((m, l) :: ks) := by
  obtain ⟨hB, F, hd, hF, hk⟩ := h
  refine ⟨Nat.le_trans hB hb.size, F, hd.keep hb.size (fun b hb' => hb.block b (hd.lt b hb')), hF, fun x hx => ?_⟩
  rcases List.mem_cons.1 hx with rfl | hx
  · exact ⟨t, hblk, fun hf => by have := hd.lt _ hf; simp at this; omega⟩
  · obtain ⟨t, h1, h2⟩ := hk x hx
    exact ⟨t, h1.keep (hb.block _ h1.lt), h2⟩
theorem At.less (h : At B w p st ks) {ks' : List (Nat × List Nat)} (hs : ∀ x ∈ ks', x ∈ ks) : At B w p st ks' := by
  obtain ⟨hB, F, hd, hF, hk⟩ := h
  exact ⟨hB, F, hd, hF, fun x hx => hk x (hs x hx)⟩
/-- Behind a call that may change the platter's own blocks. -/
theorem at_chg {F G : Nat → Prop} {st' : PSt} (hB : B ≤ w.heap.size) (hF : ∀ i, F i → B ≤ i) (hk : ∀ x ∈ ks, ∃ t, Blk w x.1 t (byts x.2).toArray ∧ ¬ F x.1)
    (hd' : Dev w' G p st') (hG : ∀ i, G i → F i ∨ w.heap.size ≤ i) (hc : Chg F w w') : At B w' p st' ks ∧ Below B w w' := by
  refine ⟨⟨Nat.le_trans hB hc.size, G, hd', fun i hi => ?_, fun x hx => ?_⟩, hc.below hB hF⟩
  · rcases hG i hi with h | h
    · exact hF i h
    · omega
  · obtain ⟨t, h1, h2⟩ := hk x hx
    refine ⟨t, h1.keep (hc.block _ h1.lt h2), fun hg => ?_⟩
    rcases hG _ hg with h | h
    · exact h2 h
    · have := h1.lt; omega
theorem ext_new {F : Nat → Prop} : ∀ i, Ext F w w' i → F i ∨ w.heap.size ≤ i := fun _ hi => hi.imp id fun h => h.1
theorem at_write (h : At B w p st ks) (hs : Small st) (n : Int) {m : Nat} {l : List Nat} (hm : (m, l) ∈ ks) (h64 : l.length = 64) (hl : ∀ x ∈ l, x < 256) :
    Calls Try.prog 29 #[.pointer (some ⟨p, 0, none⟩), .int .i64 n, .slice (some ⟨m, 0, none⟩) 64 64] w fun e w' => e = .returned (.int .i64 (st.write n l).1) ∧ At B w' p (st.write n l).2 ks ∧ Below B w w' := by
  obtain ⟨hB, F, hd, hF, hk⟩ := h
  obtain ⟨t, h1, h2⟩ := hk _ hm
  have hc := dwrite_any p st F w hd (hs.o 2 (by omega)) hs.c hs.b n (some ⟨m, 0, none⟩) 64 l hl (.inr ⟨m, 0, rfl, h1.lt, fun i hi => by
    rw [Nat.zero_add, h1.cell i]; simp⟩) (fun b o e => by injection e with e; injection e with e _; subst e; exact h2)
  rw [h64] at hc
  exact hc.mono fun _ _ ⟨e, hd', hc'⟩ => ⟨e, at_chg hB hF hk hd' ext_new hc'⟩
theorem at_read (h : At B w p st ks) (hs : Small st) (n : Int) :
    Calls Try.prog 32 #[.pointer (some ⟨p, 0, none⟩), .int .i64 n] w fun e w' => ∃ v, e = .returned (.tuple #[v, .int .i64 (st.read n).1]) ∧ Below B w w' ∧
      (((st.read n).2 = [] ∧ v = .slice none 0 0 ∧ At B w' p (st.count 1) ks) ∨ ((st.read n).2.length = 64 ∧ ∃ m, v = .slice (some ⟨m, 0, none⟩) 64 64 ∧ w.heap.size ≤ m ∧ At B w' p (st.count 1) ((m, (st.read n).2) :: ks))) := by
  obtain ⟨hB, F, hd, hF, hk⟩ := h
  refine (dread_any p st F w hd (hs.o 1 (by omega)) hs.c hs.b n).mono ?_
  rintro e w' ⟨v, rfl, hd', hc', A, cap, rfl, hcap, hA, hr⟩
  obtain ⟨hat, hbl⟩ := at_chg hB hF hk hd' (fun _ h => .inl h) hc'
  refine ⟨_, rfl, hbl, ?_⟩
  rcases hr with ⟨h0, rfl⟩ | ⟨m, rfl, rfl, h64, hm, hm', hblk⟩
  · rw [hA rfl, h0]; exact .inl ⟨rfl, rfl, hat⟩
  · refine .inr ⟨h64, m, by rw [h64], hm, hat.1, F, hd', hF, fun x hx => ?_⟩
    rcases List.mem_cons.1 hx with rfl | hx
    · exact ⟨_, hblk, fun hf => by have := hd.lt _ hf; simp at this; omega⟩
    · obtain ⟨t, h1, h2⟩ := hk x hx
      exact ⟨t, h1.keep (hc'.block _ h1.lt h2), h2⟩
end
end Go.Proofs.Ytaainefdjbmekaa
namespace Go.Proofs.Ytaainefdjbmekaa
open Go.RowKit Go.Maps
theorem no_hit {st : PSt} (h : st.plan = []) (k : Nat) : (st.count k).hit k = false := by simp [PSt.hit, PSt.count, h]
theorem write_yes {st : PSt} (h : st.plan = []) {n : Nat} {l : List Nat} (hn : n < st.blocks.length) (hl : l.length = 64) : st.write n l = (0, (st.count 2).put n l) := by
  unfold PSt.write
  rw [if_neg (by rw [no_hit h]; decide), if_neg (by omega), Int.toNat_natCast]
theorem write_no {st : PSt} (h : st.plan = []) {n : Int} {l : List Nat} (hn : n < 0 ∨ (st.blocks.length : Int) ≤ n ∨ l.length ≠ 64) : st.write n l = (1, st.count 2) := by
  unfold PSt.write
  rw [if_neg (by rw [no_hit h]; decide), if_pos hn]
/-- A write that is said to be done, without its length. -/
abbrev Small.ok (st : PSt) : Prop := Small st
theorem small_of {st : PSt} {N : Nat} (h1 : ∀ k, k ≤ 3 → st.ops k ≤ N) (h2 : st.cache.length ≤ N) (hN : N < 1000000) (h3 : st.blocks.length < 1000000) (h4 : 0 < st.blocks.length) : Small st :=
  ⟨fun k hk => Nat.lt_of_le_of_lt (h1 k hk) hN, by omega, h3, h4⟩
/-- The state has m blocks, and at most N of its operations were asked. -/
structure Mild (st : PSt) (m N : Nat) : Prop where
  o : ∀ k, k ≤ 3 → st.ops k ≤ N
  c : st.cache.length ≤ N
  b : st.blocks.length = m
  p : st.plan = []
theorem Mild.small {st : PSt} {m N : Nat} (h : Mild st m N) (h1 : 0 < m ∧ m < 1000000) (h2 : N < 1000000) : Small st := small_of h.o h.c h2 (by rw [h.b]; exact h1.2) (by rw [h.b]; exact h1.1)
theorem Mild.count {st : PSt} {m N : Nat} (h : Mild st m N) (k : Nat) : Mild (st.count k) m (N + 1) :=
  ⟨fun j hj => by have := h.o j hj; simp only [PSt.count, bump]; split <;> omega, by have := h.c; simp only [PSt.count]; omega, h.b, h.p⟩
theorem Mild.put {st : PSt} {m N : Nat} (h : Mild st m N) (k : Nat) (n : Nat) (l : List Nat) : Mild ((st.count k).put n l) m (N + 1) :=
  ⟨fun j hj => (h.count k).o j hj, by have := h.c; simp only [PSt.count, PSt.put, List.length_append, List.length_singleton]; omega, h.b, h.p⟩
section
variable {B : Nat} {w w' : World} {p : Nat} {st st' : PSt} {ks : List (Nat × List Nat)} {c : Int}
theorem wr (h : At B w p st ks) (hs : Small st) {n : Int} {m : Nat} {l : List Nat} (hm : (m, l) ∈ ks) (h64 : l.length = 64) (hl : ∀ x ∈ l, x < 256) (he : st.write n l = (c, st')) :
    Calls Try.prog 29 #[.pointer (some ⟨p, 0, none⟩), .int .i64 n, .slice (some ⟨m, 0, none⟩) 64 64] w fun e w' => e = .returned (.int .i64 c) ∧ At B w' p st' ks ∧ Below B w w' := by
  have := at_write h hs n hm h64 hl
  rw [he] at this
  exact this
theorem rd (h : At B w p st ks) (hs : Small st) {n : Int} {l : List Nat} (he : st.read n = (0, l)) (h64 : l.length = 64) :
    Calls Try.prog 32 #[.pointer (some ⟨p, 0, none⟩), .int .i64 n] w fun e w' => ∃ m, e = .returned (.tuple #[.slice (some ⟨m, 0, none⟩) 64 64, .int .i64 0]) ∧ At B w' p (st.count 1) ((m, l) :: ks) ∧ Below B w w' := by
  have := at_read h hs n
  rw [he] at this
  refine this.mono ?_
  rintro e w' ⟨v, rfl, hb, ⟨h0, _⟩ | ⟨_, m, rfl, _, hat⟩⟩
  · simp only at h0; rw [h0] at h64; cases h64
  · exact ⟨m, rfl, hat, hb⟩
theorem At.drew (h : At B w p st ks) : At B w.drew p st ks := h.quiet ((Below.refl _ _).drew)
end
end Go.Proofs.Ytaainefdjbmekaa
namespace Go.Proofs.Ytaainefdjbmekaa.Rn
open Go.RowKit
/-- One block more at the end: it makes the last run longer, or begins one. -/
def push (l : List (Nat × Nat)) (i : Nat) : List (Nat × Nat) :=
  match l.getLast? with
  | some r => if r.1 + r.2 = i then l.dropLast ++ [(r.1, r.2 + 1)] else l ++ [(i, 1)]
  | none => [(i, 1)]
/-- The free runs among the first k blocks. -/
def listK (F : List Bool) : Nat → List (Nat × Nat)
  | 0 => []
  | k + 1 => if F.getD k false = true then push (listK F k) k else listK F k
def list (F : List Bool) : List (Nat × Nat) := listK F F.length
def freeN (F : List Bool) : Nat := F.countP id
/-- Are all of n blocks from a place on free, or taken, as is asked? -/
def all (F : List Bool) (a n : Int) (b : Bool) : Bool := decide (0 ≤ a) && decide (1 ≤ n) && decide (a < F.length) && decide (n ≤ F.length - a) && (List.range n.toNat).all fun k => F.getD (a.toNat + k) false == b
/-- n blocks from a place on. -/
def setN (F : List Bool) (a : Nat) (b : Bool) : Nat → List Bool
  | 0 => F
  | n + 1 => (setN F a b n).set (a + n) b
/-- Mark and Give: the answer and what is free then. -/
def change (F : List Bool) (a n : Int) (b : Bool) : Bool × List Bool := if all F a n (!b) then (true, setN F a.toNat b n.toNat) else (false, F)
def mark (F : List Bool) (a n : Int) : Bool × List Bool := change F a n false
def give (F : List Bool) (a n : Int) : Bool × List Bool := change F a n true
/-- Take: the answer, and what is free then. -/
def take (F : List Bool) (n : Int) : Nat × Bool × List Bool :=
  if n < 1 then (0, false, F) else match (list F).find? fun r => decide (n ≤ (r.2 : Int)) with
    | some r => (r.1, true, setN F r.1 false n.toNat)
    | none => (0, false, F)
def new (blocks : Int) : List Bool := if blocks < 0 ∨ 8192 < blocks then [] else List.replicate blocks.toNat true
theorem setN_len (F : List Bool) (a : Nat) (b : Bool) : ∀ n, (setN F a b n).length = F.length
  | 0 => rfl
  | n + 1 => by rw [setN, List.length_set]; exact setN_len F a b n
theorem getD_set (F : List Bool) (i : Nat) (v : Bool) {j : Nat} (hi : i < F.length) : (F.set i v).getD j false = if i = j then v else F.getD j false := by
  rw [List.getD_eq_getElem?_getD, List.getElem?_set]
  by_cases h : i = j
  · subst h; rw [if_pos rfl, if_pos hi, if_pos rfl]; rfl
  · rw [if_neg h, if_neg h, List.getD_eq_getElem?_getD]
theorem setN_at (F : List Bool) (a : Nat) (b : Bool) (j : Nat) : ∀ n, a + n ≤ F.length → (setN F a b n).getD j false = if a ≤ j ∧ j < a + n then b else F.getD j false
  | 0, _ => by rw [setN, if_neg (by omega)]
  | n + 1, h => by
    rw [setN, getD_set _ _ _ (by rw [setN_len]; omega), setN_at F a b j n (by omega)]
    by_cases h1 : a + n = j
    · rw [if_pos h1, if_pos (by omega)]
    · rw [if_neg h1]
      by_cases h2 : a ≤ j ∧ j < a + n
      · rw [if_pos h2, if_pos (by omega)]
      · rw [if_neg h2, if_neg (by omega)]
theorem ext {F G : List Bool} (hl : F.length = G.length) (h : ∀ j, j < F.length → F.getD j false = G.getD j false) : F = G := by
  apply List.ext_getElem?
  intro j
  rcases Nat.lt_or_ge j F.length with hj | hj
  · have := h j hj
    rw [List.getD_eq_getElem?_getD, List.getD_eq_getElem?_getD, List.getElem?_eq_getElem hj, List.getElem?_eq_getElem (by omega)] at this
    rw [List.getElem?_eq_getElem hj, List.getElem?_eq_getElem (by omega)]
    simpa using this
  · rw [List.getElem?_eq_none hj, List.getElem?_eq_none (by omega)]
theorem all_iff (F : List Bool) (a n : Int) (b : Bool) : all F a n b = true ↔ 0 ≤ a ∧ 1 ≤ n ∧ a < F.length ∧ n ≤ F.length - a ∧ ∀ k, k < n.toNat → F.getD (a.toNat + k) false = b := by
  unfold all
  simp only [Bool.and_eq_true, decide_eq_true_eq, List.all_eq_true, List.mem_range, beq_iff_eq]
  constructor
  · rintro ⟨⟨⟨⟨h1, h2⟩, h3⟩, h4⟩, h5⟩; exact ⟨h1, h2, h3, h4, h5⟩
  · rintro ⟨h1, h2, h3, h4, h5⟩; exact ⟨⟨⟨⟨h1, h2⟩, h3⟩, h4⟩, h5⟩
theorem listK_app (F G : List Bool) : ∀ k, k ≤ F.length → listK (F ++ G) k = listK F k
  | 0, _ => rfl
  | k + 1, h => by
    have e : (F ++ G).getD k false = F.getD k false := by rw [List.getD_eq_getElem?_getD, List.getElem?_append_left (by omega), ← List.getD_eq_getElem?_getD]
    rw [listK, listK, e, listK_app F G k (by omega)]
theorem list_snoc (F : List Bool) (b : Bool) : list (F ++ [b]) = if b = true then push (list F) F.length else list F := by
  unfold list
  have e : (F ++ [b]).getD F.length false = b := by rw [List.getD_eq_getElem?_getD, List.getElem?_append_right (Nat.le_refl _), Nat.sub_self]; rfl
  rw [List.length_append, List.length_singleton, listK, e, listK_app F [b] _ (Nat.le_refl _)]
/-- Where runs end: not behind the blocks that there are. -/
theorem listK_end (F : List Bool) : ∀ k, ∀ r ∈ listK F k, 1 ≤ r.2 ∧ r.1 + r.2 ≤ k := by
  intro k
  induction k with
  | zero => intro r hr; cases hr
  | succ k ih =>
    intro r hr
    rw [listK] at hr
    split at hr
    · unfold push at hr
      cases hl : (listK F k).getLast? with
      | none => rw [hl] at hr; simp only [List.mem_singleton] at hr; subst hr; exact ⟨Nat.le_refl _, Nat.le_refl _⟩
      | some q =>
        rw [hl] at hr
        have hq := ih q (List.mem_of_mem_getLast? hl)
        simp only at hr
        split at hr
        · rcases List.mem_append.1 hr with h | h
          · have := ih r ((List.dropLast_sublist _).subset h); omega
          · rw [List.mem_singleton] at h; subst h; omega
        · rcases List.mem_append.1 hr with h | h
          · have := ih r h; omega
          · rw [List.mem_singleton] at h; subst h; exact ⟨Nat.le_refl _, Nat.le_refl _⟩
    · have := ih r hr; omega
theorem list_end (F : List Bool) : ∀ r ∈ list F, 1 ≤ r.2 ∧ r.1 + r.2 ≤ F.length := listK_end F F.length
/-- Free blocks behind blocks of which the last one is taken (or there is none): one run more. -/
theorem list_free {F : List Bool} (h : ∀ r ∈ list F, r.1 + r.2 < F.length) : ∀ n, list (F ++ List.replicate (n + 1) true) = list F ++ [(F.length, n + 1)]
  | 0 => by
    rw [List.replicate_succ, List.replicate_zero, list_snoc, if_pos rfl]
    unfold push
    cases hl : (list F).getLast? with
    | none =>
      have : list F = [] := List.getLast?_eq_none_iff.1 hl
      rw [this]; rfl
    | some q =>
      have := h q (List.mem_of_mem_getLast? hl)
      simp only
      rw [if_neg (by omega)]
  | n + 1 => by
    rw [List.replicate_succ', ← List.append_assoc, list_snoc, if_pos rfl, list_free h n]
    unfold push
    rw [List.getLast?_append, List.getLast?_singleton]
    simp
theorem list_all (n : Nat) : list (List.replicate (n + 1) true) = [(0, n + 1)] := by
  have := list_free (F := []) (by intro r hr; cases hr) n
  rw [List.nil_append] at this
  exact this
/-- Taken from the beginning. -/
def pre (s t : Nat) : List Bool := List.replicate s false ++ List.replicate t true
theorem pre_len (s t : Nat) : (pre s t).length = s + t := by unfold pre; rw [List.length_append, List.length_replicate, List.length_replicate]
theorem pre_at {s t j : Nat} (h : j < s + t) : (pre s t).getD j false = decide (s ≤ j) := by
  unfold pre
  by_cases hj : j < s
  · rw [List.getD_eq_getElem?_getD, List.getElem?_append_left (by rw [List.length_replicate]; exact hj), List.getElem?_replicate, if_pos hj, decide_eq_false (by omega)]; rfl
  · rw [List.getD_eq_getElem?_getD, List.getElem?_append_right (by rw [List.length_replicate]; omega), List.length_replicate, List.getElem?_replicate, if_pos (by omega), decide_eq_true (by omega)]; rfl
/-- What is taken is just these pieces, apart from each other. -/
structure Pieces (F : List Bool) (l : List (Nat × Nat)) : Prop where
  fit : ∀ r ∈ l, 1 ≤ r.2 ∧ r.1 + r.2 ≤ F.length
  apart : l.Pairwise fun r q => r.1 + r.2 ≤ q.1 ∨ q.1 + q.2 ≤ r.1
  taken : ∀ j, j < F.length → (F.getD j false = false ↔ ∃ r ∈ l, r.1 ≤ j ∧ j < r.1 + r.2)
/-- A piece is given back, once. -/
theorem Pieces.give {F : List Bool} {r : Nat × Nat} {l : List (Nat × Nat)} (h : Pieces F (r :: l)) : Rn.give F (r.1 : Int) (r.2 : Int) = (true, setN F r.1 true r.2) ∧ Pieces (setN F r.1 true r.2) l ∧
    Rn.give (setN F r.1 true r.2) (r.1 : Int) (r.2 : Int) = (false, setN F r.1 true r.2) := by
  obtain ⟨f1, f2⟩ := h.fit r (List.mem_cons_self ..)
  have ha := List.pairwise_cons.1 h.apart
  have hat := fun j => setN_at F r.1 true j r.2 f2
  have e1 : all F (r.1 : Int) (r.2 : Int) (!true) = true := (all_iff _ _ _ _).2 ⟨by omega, by omega, by omega, by omega, fun k hk => by
    rw [Int.toNat_natCast] at hk ⊢
    exact (h.taken _ (by omega)).2 ⟨r, List.mem_cons_self .., by omega, by omega⟩⟩
  have e2 : all (setN F r.1 true r.2) (r.1 : Int) (r.2 : Int) (!true) = false := by
    rw [Bool.eq_false_iff]
    intro hh
    have := ((all_iff _ _ _ _).1 hh).2.2.2.2 0 (by omega)
    rw [Int.toNat_natCast, hat, if_pos (by omega)] at this
    cases this
  refine ⟨?_, ⟨fun q hq => by rw [setN_len]; exact h.fit q (List.mem_cons_of_mem _ hq), ha.2, fun j hj => ?_⟩, ?_⟩
  · unfold Rn.give change
    rw [if_pos e1, Int.toNat_natCast, Int.toNat_natCast]
  · rw [setN_len] at hj
    rw [hat]
    by_cases hr : r.1 ≤ j ∧ j < r.1 + r.2
    · rw [if_pos hr]
      constructor
      · intro hh; cases hh
      · rintro ⟨q, hq, h1, h2⟩
        have := ha.1 q hq
        omega
    · rw [if_neg hr, h.taken j hj]
      constructor
      · rintro ⟨q, hq, h1⟩
        rcases List.mem_cons.1 hq with e | hq
        · subst e; exact absurd h1 hr
        · exact ⟨q, hq, h1⟩
      · rintro ⟨q, hq, h1⟩; exact ⟨q, List.mem_cons_of_mem _ hq, h1⟩
  · unfold Rn.give change
    rw [e2]; rfl
theorem Pieces.none {F : List Bool} (h : Pieces F []) : F = List.replicate F.length true := by
  refine ext (by rw [List.length_replicate]) fun j hj => ?_
  rw [List.getD_eq_getElem?_getD (l := List.replicate _ _), List.getElem?_replicate, if_pos hj]
  cases hb : F.getD j false with
  | true => rfl
  | false =>
    obtain ⟨r, hr, -⟩ := (h.taken j hj).1 hb
    cases hr
theorem Pieces.start (t : Nat) : Pieces (pre 0 t) [] := by
  refine ⟨fun r hr => (by cases hr), List.Pairwise.nil, fun j hj => ?_⟩
  rw [pre_len] at hj
  rw [pre_at hj]
  simp
/-- The next piece. -/
theorem Pieces.next {s t n : Nat} {l : List (Nat × Nat)} (h : Pieces (pre s t) l) (hs : ∀ r ∈ l, r.1 + r.2 ≤ s) (h1 : 1 ≤ n) (hn : n ≤ t) : Pieces (pre (s + n) (t - n)) (l ++ [(s, n)]) ∧ ∀ r ∈ l ++ [(s, n)], r.1 + r.2 ≤ s + n := by
  have hlen : (pre (s + n) (t - n)).length = (pre s t).length := by rw [pre_len, pre_len]; omega
  refine ⟨⟨fun r hr => ?_, ?_, fun j hj => ?_⟩, fun r hr => ?_⟩
  · rw [hlen]
    rcases List.mem_append.1 hr with hr | hr
    · exact h.fit r hr
    · rw [List.mem_singleton] at hr; subst hr; rw [pre_len]; exact ⟨h1, by show s + n ≤ _; omega⟩
  · refine List.pairwise_append.2 ⟨h.apart, List.pairwise_singleton _ _, fun r hr q hq => ?_⟩
    rw [List.mem_singleton] at hq; subst hq
    exact .inl (hs r hr)
  · rw [hlen] at hj
    have ht := h.taken j hj
    rw [pre_len] at hj
    rw [pre_at hj] at ht
    rw [pre_at (by omega)]
    rw [decide_eq_false_iff_not] at ht ⊢
    constructor
    · intro hh
      by_cases hsj : s ≤ j
      · exact ⟨(s, n), List.mem_append_right _ (List.mem_singleton.2 rfl), hsj, by show j < s + n; omega⟩
      · obtain ⟨r, hr, h'⟩ := ht.1 hsj
        exact ⟨r, List.mem_append_left _ hr, h'⟩
    · rintro ⟨r, hr, h1', h2'⟩
      rcases List.mem_append.1 hr with hr | hr
      · have := hs r hr; omega
      · rw [List.mem_singleton] at hr; subst hr
        have : j < s + n := h2'
        omega
  · rcases List.mem_append.1 hr with hr | hr
    · have := hs r hr; omega
    · rw [List.mem_singleton] at hr; subst hr; exact Nat.le_refl _
end Go.Proofs.Ytaainefdjbmekaa.Rn
namespace Go.Proofs.Ytaainefdjbmekaa.Sh
/-- A run, and how often it is used (0: it is late): (first block, blocks, uses). -/
abbrev U := Nat × Nat × Nat
def idx (l : List U) (a : Int) : Option Nat := l.findIdx? fun u => decide ((u.1 : Int) = a)
def idxV (l : List U) (a : Int) : Int := match idx l a with | none => -1 | some k => (k : Int)
/-- How many runs lie below a block. -/
def below (l : List U) (a : Nat) : Nat := (l.takeWhile fun u => decide (u.1 < a)).length
def ins (l : List U) (a n : Nat) : List U := l.take (below l a) ++ [(a, n, 1)] ++ l.drop (below l a)
def add (l : List U) (a n : Int) : Bool × List U := if n < 1 ∨ a < 0 ∨ 0 ≤ idxV l a then (false, l) else (true, ins l a.toNat n.toNat)
def at_ (l : List U) (k : Nat) : U := l.getD k (0, 0, 0)
def setU (l : List U) (k m : Nat) : List U := l.set k ((at_ l k).1, (at_ l k).2.1, m)
/-- One use more, or less. -/
def change (l : List U) (a : Int) (more : Bool) : Bool × List U :=
  match idx l a with
  | none => (false, l)
  | some k => if (at_ l k).2.2 = 0 then (false, l) else (true, setU l k (if more = true then (at_ l k).2.2 + 1 else (at_ l k).2.2 - 1))
def uses (l : List U) (a : Int) : Nat := match idx l a with | none => 0 | some k => (at_ l k).2.2
def isLate (u : U) : Bool := u.2.2 == 0
def giveAll (F : List Bool) (l : List U) : List Bool := l.foldl (fun F u => (Rn.give F (u.1 : Int) (u.2.1 : Int)).2) F
def blocks (l : List U) : Nat := (l.map fun u => u.2.1).sum
def lates (l : List U) : List U := l.filter isLate
def used (l : List U) : List U := l.filter fun u => !isLate u
/-- Those that the older row does not know. -/
def news (l was : List U) : List U := l.filter fun u => !was.any fun o => decide (o.1 = u.1)
theorem idx_here {l : List U} {a : Int} {k : Nat} (hk : k < l.length) (h : ((at_ l k).1 : Int) = a) (hb : ∀ j, j < k → ((at_ l j).1 : Int) ≠ a) : idx l a = some k := by
  unfold idx
  refine List.findIdx?_eq_some_iff_getElem.2 ⟨hk, ?_, fun j hj => ?_⟩
  · unfold at_ at h
    rw [List.getD_eq_getElem?_getD, List.getElem?_eq_getElem hk] at h
    simpa using h
  · have := hb j hj
    unfold at_ at this
    rw [List.getD_eq_getElem?_getD, List.getElem?_eq_getElem (by omega)] at this
    simpa using this
theorem idx_none {l : List U} {a : Int} (h : ∀ j, j < l.length → ((at_ l j).1 : Int) ≠ a) : idx l a = none := by
  unfold idx
  rw [List.findIdx?_eq_none_iff]
  intro u hu
  obtain ⟨i, hi, rfl⟩ := List.mem_iff_getElem.1 hu
  have := h i hi
  unfold at_ at this
  rw [List.getD_eq_getElem?_getD, List.getElem?_eq_getElem hi] at this
  simpa using this
theorem below_le (l : List U) (a : Nat) : below l a ≤ l.length := (List.takeWhile_sublist _).length_le
/-- The first that does not lie below. -/
theorem below_here {l : List U} {a k : Nat} (hk : k ≤ l.length) (hb : ∀ j, j < k → (at_ l j).1 < a) (hs : k < l.length → ¬ (at_ l k).1 < a) : below l a = k := by
  induction l generalizing k with
  | nil => have : k = 0 := by simpa using hk
           subst this; rfl
  | cons u l ih =>
    unfold below
    cases k with
    | zero =>
      have := hs (by simp)
      have h2 : ¬ u.1 < a := this
      rw [List.takeWhile_cons, if_neg (by simpa using h2)]
      rfl
    | succ k =>
      have h1 : u.1 < a := hb 0 (by omega)
      rw [List.takeWhile_cons, if_pos (by simpa using h1), List.length_cons]
      have := ih (k := k) (by simpa using hk) (fun j hj => hb (j + 1) (by omega)) (fun h => hs (by simpa using h))
      unfold below at this
      rw [this]
theorem ins_len (l : List U) (a n : Nat) : (ins l a n).length = l.length + 1 := by
  unfold ins
  have := below_le l a
  rw [List.length_append, List.length_append, List.length_take, List.length_drop, List.length_singleton]
  omega
end Go.Proofs.Ytaainefdjbmekaa.Sh
