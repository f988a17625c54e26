/- The program's buffer in memory, and its small methods: New, Len, Get, Clear. -/
import Derived.Test.YtfpkbgbkamjbeaaBfm
import Derived.Test.YtfpkbgbkamjbeaaBclone
import Derived.WalkKit
import Derived.BigQuiet
import Derived.WalkSpells
import Derived.WalkLawsBesides
import Derived.Handy
import Derived.IntWalk
import Derived.Lib.Hide
import Derived.Deep.OwnRows
import Derived.Deep.DeepCutAuto
import Derived.Carry
namespace Go.Proofs.Ytfpkbgbkamjbeaa
open Go.RowKit Go.Maps

/-- What is pending: by sector; a trim is none. -/
abbrev Pend := Int → Option (Option (List Nat))
/-- The value of an entry says what is pending. -/
def OkV (w : World) (X : Nat → Prop) : Option Value → Option (Option (List Nat)) → Prop
  | none, none => True
  | some v, some none => v = .slice none 0 0
  | some v, some (some l) => l.length = 128 ∧ (∀ x ∈ l, x < 256) ∧ ∃ b c, v = .slice (some ⟨b, 0, none⟩) 128 c ∧ 128 ≤ c ∧ X b ∧ ∀ i u, (byts l)[i]? = some u → w.cell? ⟨b, i, none⟩ = some u
  | _, _ => False
theorem OkV.keep {w w' : World} {X Y : Nat → Prop} : ∀ {o : Option Value} {p : Option (Option (List Nat))}, OkV w X o p → (∀ b, X b → b < w.heap.size) → (∀ b, X b → w'.heap[b]? = w.heap[b]? ∨ w.heap[b]?.any (fun o => match o with | .map _ _ => true | _ => false) = true) → (∀ b, X b → Y b) → OkV w' Y o p
  | none, none, _, _, _, _ => trivial
  | some _, some none, h, _, _, _ => h
  | some _, some (some l), ⟨h1, h0, b, c, h2, h3, h4, h5⟩, _, hk, hY => ⟨h1, h0, b, c, h2, h3, hY b h4, fun i u hu => by
      have h6 := h5 i u hu
      rcases hk b h4 with e | e
      · exact (World.cell?_of_block e).trans h6
      · exfalso
        cases hh : w.heap[b]? with
        | none => rw [hh] at e; cases e
        | some o =>
          rw [hh] at e
          cases o <;> simp at e
          simp [World.cell?, hh] at h6⟩
  | none, some _, h, _, _, _ => h.elim
  | some _, none, h, _, _, _ => h.elim

/-- Block g is a buffer with room for k, in which n sectors are pending: s; it lies in the blocks X. -/
structure BufR (w : World) (g : Nat) (X : Nat → Prop) (k n : Nat) (s : Pend) : Prop where
  lt : ∀ b, X b → b < w.heap.size
  gin : X g
  le : n ≤ k ∧ k ≤ 512
  st : ∃ m vals, X m ∧ Blk w g 43 #[.int .i64 k, .map (some m)] ∧ MapI w m n vals ∧ ∀ x, OkV w X (vals x) (s x)

theorem BufR.keep {w w' : World} {g : Nat} {X : Nat → Prop} {k n : Nat} {s : Pend} (h : BufR w g X k n s) (hs : w.heap.size ≤ w'.heap.size) (hk : ∀ b, X b → w'.heap[b]? = w.heap[b]?) : BufR w' g X k n s := by
  obtain ⟨h1, h2, hl, m, vals, h3, h4, h5, h6⟩ := h
  exact ⟨fun b hb => Nat.lt_of_lt_of_le (h1 b hb) hs, h2, hl, m, vals, h3, h4.keep (hk g h2), h5.keep (hk m h3), fun x => (h6 x).keep h1 (fun b hb => .inl (hk b hb)) fun _ hb => hb⟩
theorem BufR.below {w w' : World} {g : Nat} {X : Nat → Prop} {k n : Nat} {s : Pend} (h : BufR w g X k n s) (hb : Below w.heap.size w w') : BufR w' g X k n s := h.keep hb.size fun b hx => hb.block b (h.lt b hx)

theorem OkV.isSome {w : World} {X : Nat → Prop} : ∀ {o : Option Value} {p : Option (Option (List Nat))}, OkV w X o p → o.isSome = p.isSome
  | none, none, _ => rfl
  | some _, some none, _ => rfl
  | some _, some (some _), _ => rfl
  | none, some _, h => h.elim
  | some _, none, h => h.elim

def clampN (k : Int) : Nat := if k < 0 then 0 else if 512 < k then 512 else k.toNat

set_option maxHeartbeats 1000000 in
theorem bnew_any (k : Int) (w : World) : Calls Try.prog 7 #[.int .i64 k] w fun e w' =>
    e = .returned (.pointer (some ⟨w.heap.size + 1, 0, none⟩)) ∧ BufR w' (w.heap.size + 1) (fun b => w.heap.size ≤ b ∧ b < w'.heap.size) (clampN k) 0 (fun _ => none) ∧ Below w.heap.size w w' := by
  obtain ⟨m1, hm1⟩ : ∃ m1 : Int, m1 = if 0 > k then 0 else k := ⟨_, rfl⟩
  obtain ⟨m2, hm2⟩ : ∃ m2 : Nat, (m2 : Int) = (if 512 < m1 then 512 else m1) ∧ m2 = clampN k := ⟨clampN k, by subst hm1; unfold clampN; split <;> split <;> (try split) <;> omega, rfl⟩
  have hmax : ∀ (ts : Array TypeId) (t : TypeId) (W : World), (Builtin.max_ ts t #[.int .i64 k, .int .i64 0]).run Try.prog W = .ok (.int .i64 m1) W := fun ts t W => by rw [run_max_int2, hm1]
  have hmin : ∀ (ts : Array TypeId) (t : TypeId) (W : World), (Builtin.min_ ts t #[.int .i64 m1, .int .i64 512]).run Try.prog W = .ok (.int .i64 (m2 : Int)) W := fun ts t W => by rw [run_min_int2, hm2.1]
  have hmm := @run_makeMap Try.prog
  have hle : m2 ≤ 512 := by rw [hm2.2]; unfold clampN; split; · omega
                            split <;> omega
  rw [← hm2.2]
  clear hm1 hm2
  go_enter Try.func7, Try.ntmps7
  go_wp2_with fail
  go_ret
  have e1 : (w.alloc (.map #[] 0)).heap.size = w.heap.size + 1 := by simp
  have hB := Blk.new (w.alloc (.map #[] 0)) 43 #[.int .i64 (m2 : Int), .map (some w.heap.size)]
  rw [e1] at hB
  refine ⟨by simp, ⟨fun b hb => hb.2, ⟨by omega, by simp⟩, ⟨Nat.zero_le _, hle⟩, w.heap.size, fun _ => none, ⟨Nat.le_refl _, by simp; omega⟩, hB, (MapI.made w).keep (Below.heap_alloc _ _ _ (by simp)), fun x => trivial⟩, ((Below.refl _ _).alloc (Nat.le_refl _) _).alloc (by simp) _⟩

theorem blen_any {w : World} {g : Nat} {X : Nat → Prop} {k n : Nat} {s : Pend} (h : BufR w g X k n s) : Calls Try.prog 10 #[.pointer (some ⟨g, 0, none⟩)] w fun e w' => e = .returned (.int .i64 n) ∧ w' = w := by
  obtain ⟨h1, h2, _, m, vals, h3, h4, h5, h6⟩ := h
  have c1 : w.cell? ⟨g, 1, none⟩ = some (.map (some m)) := h4.cell 1
  have hl : ∀ ty, (Builtin.len_ #[41] ty #[.map (some m)]).run Try.prog w = .ok (.int .i64 n) w := fun ty => h5.len Try.underlying41 ty
  clear h4 h5 h6
  go_enter Try.func10, Try.ntmps10
  go_wp2_with fail
  go_ret
  exact ⟨rfl, rfl⟩

/-- What Get answers. -/
def GetR (w : World) : Option (Option (List Nat)) → Ending → World → Prop
  | none, e, w' => ∃ c, e = .returned (.tuple #[.slice none 0 c, .bool false]) ∧ Below w.heap.size w w'
  | some none, e, w' => ∃ c, e = .returned (.tuple #[.slice none 0 c, .bool true]) ∧ Below w.heap.size w w'
  | some (some l), e, w' => ∃ b c, e = .returned (.tuple #[.slice (some ⟨b, 0, none⟩) 128 c, .bool true]) ∧ w.heap.size ≤ b ∧ b < w'.heap.size ∧ (∀ i u, (byts l)[i]? = some u → w'.cell? ⟨b, i, none⟩ = some u) ∧ Below w.heap.size w w'

theorem clone_nil (w : World) : Calls Try.prog 15 #[.slice none 0 0] w fun e w' => e = .returned (.slice none 0 0) ∧ w' = w := by
  have hq := fun w => run_eql_bytes_nil (P := Try.prog) w 30 5 none 0 0 Try.underlying30
  rw [show (none : Option Addr).isNone = true from rfl] at hq
  go_enter Try.func15, Try.ntmps15
  go_wp2_with fail
  go_ret
  exact ⟨rfl, rfl⟩
theorem clone_row {w : World} {A : Option Addr} {c B : Nat} {l : List Nat} (hl : l.length = 128) (hA : A ≠ none) (hs : Sl w B A (byts l)) (hB : B ≤ w.heap.size) (hc : 128 ≤ c) : Calls Try.prog 15 #[.slice A 128 c] w fun e w' =>
    ∃ b c', e = .returned (.slice (some ⟨b, 0, none⟩) 128 c') ∧ 128 ≤ c' ∧ w.heap.size ≤ b ∧ b < w'.heap.size ∧ (∀ i u, (byts l)[i]? = some u → w'.cell? ⟨b, i, none⟩ = some u) ∧ Below w.heap.size w w' := by
  have := bclone_any A c l w hs hB (by omega) (fun h => absurd h hA) (by omega)
  rw [hl] at this
  refine this.mono ?_
  rintro e w' ⟨A', c', rfl, hown, hb⟩
  rw [hl] at hown ⊢
  have hR : Row w' (fun b => w.heap.size ≤ b) 5 1 (.slice A' 128 c') 128 (byts l) := ⟨World.ownsRow_base hown (Nat.zero_le _), fun b hb => by
    rcases hown.2 with h0 | ⟨g, cap, cur, hv, hg, _⟩
    · simp at h0
    · obtain ⟨rfl⟩ : some (⟨g, 0, none⟩ : Addr) = A' ∧ True := by injection hv with e1 _ _; exact ⟨e1.symm, trivial⟩
      simp [Value.ownBlock] at hb
      omega⟩
  obtain ⟨b, rfl, hb1, hb2, hb3⟩ := hR.at_ (by decide)
  refine ⟨b, c', rfl, own_len hown, hb1, hb2, fun i u hu => ?_, hb⟩
  rw [hb3.1 i (by have := (List.getElem?_eq_some_iff.1 hu).1; rw [byts_length] at this; omega), hu]

set_option maxHeartbeats 1000000 in
theorem bget_any {w : World} {g : Nat} {X : Nat → Prop} {k n : Nat} {s : Pend} (h : BufR w g X k n s) {x : Int} (hx : (Lit.int .i64 x).wf = true) :
    Calls Try.prog 11 #[.pointer (some ⟨g, 0, none⟩), .int .i64 x] w (GetR w (s x)) := by
  obtain ⟨h1, h2, _, m, vals, h3, h4, h5, h6⟩ := h
  have c1 : w.cell? ⟨g, 1, none⟩ = some (.map (some m)) := h4.cell 1
  have hl := h5.look hx
  have h7 := h6 x
  clear h4 h5 h6
  generalize vals x = o at *
  generalize s x = p at *
  match o, p, h7 with
  | none, none, _ =>
    have hc := Lib.hid (clone_nil w)
    simp only [Option.getD_none, Option.isSome_none] at hl
    go_enter Try.func11, Try.ntmps11
    go_wp2_with fail
    refine hc.out.mono ?_
    rintro e w' ⟨rfl, rfl⟩
    go_wp2_with fail
    go_ret2
    exact ⟨0, rfl, Below.refl _ _⟩
  | some v, some none, h8 =>
    have h8 : v = .slice none 0 0 := h8
    subst h8
    have hc := Lib.hid (clone_nil w)
    simp only [Option.getD_some, Option.isSome_some] at hl
    go_enter Try.func11, Try.ntmps11
    go_wp2_with fail
    refine hc.out.mono ?_
    rintro e w' ⟨rfl, rfl⟩
    go_wp2_with fail
    go_ret2
    exact ⟨0, rfl, Below.refl _ _⟩
  | some v, some (some l), h8 =>
    obtain ⟨hl1, hlb, b, c, rfl, hc1, hX, hcell⟩ := h8
    have hc := Lib.hid (clone_row (w := w) (A := some ⟨b, 0, none⟩) (c := c) hl1 (by simp) (.inr ⟨b, 0, rfl, h1 b hX, fun i hi => by rw [Nat.zero_add, hcell i _ (List.getElem?_eq_getElem hi)]⟩) (Nat.le_refl _) hc1)
    simp only [Option.getD_some, Option.isSome_some] at hl
    clear hcell
    go_enter Try.func11, Try.ntmps11
    go_wp2_with fail
    refine hc.out.mono ?_
    rintro e w' ⟨b', c', rfl, _, hb1, hb2, hb3, hb4⟩
    go_wp2_with fail
    go_ret2
    exact ⟨b', c', rfl, hb1, hb2, hb3, hb4⟩

theorem bclear_any {w : World} {g : Nat} {X : Nat → Prop} {k n : Nat} {s : Pend} (h : BufR w g X k n s) : Calls Try.prog 12 #[.pointer (some ⟨g, 0, none⟩)] w fun e w' =>
    e = .returned (.tuple #[]) ∧ BufR w' g X k 0 (fun _ => none) ∧ Chg X w w' ∧ w'.heap.size = w.heap.size ∧ ∃ m, w'.cell? ⟨g, 1, none⟩ = some (.map (some m)) ∧ ∃ clock, w'.heap[m]? = some (.map #[] clock) := by
  obtain ⟨h1, h2, hle, m, vals, h3, h4, h5, h6⟩ := h
  have c1 : w.cell? ⟨g, 1, none⟩ = some (.map (some m)) := h4.cell 1
  obtain ⟨w1, hcl, hm1, ht, clock, hz⟩ : ∃ w', (∀ ty, (Builtin.clear_ #[41] ty #[.map (some m)]).run Try.prog w = .ok (.tuple #[]) w') ∧ MapI w' m 0 (fun _ => none) ∧ w.mapTurned w' m ∧ ∃ clock, w'.heap[m]? = some (.map #[] clock) := by
    obtain ⟨w', hr, r⟩ := h5.clear Try.underlying41 0
    exact ⟨w', fun ty => hr, r⟩
  have hne := h5.ne_ h4
  have hg : w1.heap[g]? = w.heap[g]? := by
    obtain ⟨_, _, _, _, _, rfl⟩ := ht
    exact ChangeMaps.heap_setBlock_other (by assumption) _ (Ne.symm hne)
  have hsz : w1.heap.size = w.heap.size := by obtain ⟨_, _, _, _, _, rfl⟩ := ht; simp [ChangeMaps.setBlock]
  have H := Lib.hid (And.intro h4 (And.intro hm1 (And.intro ht.grown hz)))
  clear h4 h5 h6 hm1 ht hz
  go_enter Try.func12, Try.ntmps12
  go_wp2_with fail
  refine bodyPost_end (results_none rfl _ _ _) rfl ?_
  obtain ⟨h4, hm1, hgr, hz⟩ := H.out
  have hB := h4.keep hg
  refine ⟨rfl, ⟨fun b hb => by rw [hsz]; exact h1 b hb, h2, ⟨Nat.zero_le _, hle.2⟩, m, _, h3, hB, hm1, fun x => trivial⟩, (Chg.refl X w).grown hgr (fun k hk => by injection hk with hk; subst hk; exact .inl h3), hsz, m, hB.cell 1, clock, hz⟩
end Go.Proofs.Ytfpkbgbkamjbeaa
