/- Both platters side by side, in the same state. -/
import Derived.Test.YtdengokonaljpaaRnew
import Derived.Test.YtdengokonaljpaaRrot
import Derived.Test.YtdengokonaljpaaRfail
import Derived.Test.YtdengokonaljpaaAtw
namespace Go.Proofs.Ytdengokonaljpaa
open Go.RowKit Go.Maps

/-- Block p is the program's platter, block m the document's; both in state st. -/
structure Duo (w : World) (F G : Nat → Prop) (p m : Nat) (st : PSt) : Prop where
  dev : Dev w F p st
  ref : RefR w G m st
  dis : ∀ i, F i → ¬ G i

/-- The counts and lengths are small. -/
structure Fair (st : PSt) (N : Nat) : Prop where
  o : ∀ k, k ≤ 3 → st.ops k ≤ N ∧ st.since k ≤ N
  c : st.cache.length ≤ N
  q : st.plan.length ≤ 20
  b : 0 < st.blocks.length ∧ st.blocks.length ≤ 8192
  z : st.ops 0 = 0

section
variable {w w' : World} {F G : Nat → Prop} {p m : Nat} {st : PSt}
theorem Duo.keep (h : Duo w F G p m st) (hs : w.heap.size ≤ w'.heap.size) (hk : ∀ b, F b ∨ G b → w'.heap[b]? = w.heap[b]?) : Duo w' F G p m st :=
  ⟨h.dev.keep hs fun b hb => hk b (.inl hb), h.ref.keep hs fun b hb => hk b (.inr hb), h.dis⟩
theorem Duo.lt (h : Duo w F G p m st) : ∀ b, F b ∨ G b → b < w.heap.size := fun b hb => hb.elim (h.dev.lt b) (h.ref.lt b)
theorem Duo.chg (h : Duo w F G p m st) {X : Nat → Prop} (hc : Chg X w w') (hX : ∀ b, F b ∨ G b → ¬ X b) : Duo w' F G p m st :=
  h.keep hc.size fun b hb => hc.block b (h.lt b hb) (hX b hb)
theorem Duo.below (h : Duo w F G p m st) (hb : Below w.heap.size w w') : Duo w' F G p m st := h.keep hb.size fun b hb' => hb.block b (h.lt b hb')
theorem q_blocks (h : Dev w F p st) (n : Nat) : Calls Try.prog 25 #[.pointer (some ⟨p, 0, none⟩)] (w.drewN n) fun e w' => e = .returned (.int .i64 (st.blocks.length : Int)) ∧ ∃ k, w' = w.drewN k :=
  (dblocks (h.keep (w' := w.drewN n) (Nat.le_refl _) (fun _ _ => rfl))).mono fun _ _ ⟨e, h⟩ => ⟨e, n, h⟩
theorem q_cached (h : Dev w F p st) (n : Nat) : Calls Try.prog 15 #[.pointer (some ⟨p, 0, none⟩)] (w.drewN n) fun e w' => e = .returned (.int .i64 (st.cache.length : Int)) ∧ ∃ k, w' = w.drewN k :=
  (dcached (h.keep (w' := w.drewN n) (Nat.le_refl _) (fun _ _ => rfl))).mono fun _ _ ⟨e, h⟩ => ⟨e, n, h⟩
theorem q_count (h : Dev w F p st) (c : Int) (n : Nat) : Calls Try.prog 23 #[.pointer (some ⟨p, 0, none⟩), .int .i64 c] (w.drewN n) fun e w' => e = .returned (.int .i64 (st.counted c)) ∧ ∃ k, w' = w.drewN k :=
  (dcount (h.keep (w' := w.drewN n) (Nat.le_refl _) (fun _ _ => rfl)) c).mono fun _ _ ⟨e, h⟩ => ⟨e, n, h⟩
theorem q_count2 (h : Dev w F p st) (c : Int) (a n : Nat) : Calls Try.prog 23 #[.pointer (some ⟨p, 0, none⟩), .int .i64 c] (w.drewN (a + n)) fun e w' => e = .returned (.int .i64 (st.counted c)) ∧ ∃ k, w' = w.drewN (a + k) :=
  (dcount (h.keep (w' := w.drewN (a + n)) (Nat.le_refl _) (fun _ _ => rfl)) c).mono fun _ _ ⟨e, h⟩ => ⟨e, n, h⟩

set_option maxHeartbeats 1000000 in
theorem same_any (h : Duo w F G p m st) (hz : st.ops 0 = 0) :
    Calls Try.prog 13 #[.pointer (some ⟨p, 0, none⟩), .pointer (some ⟨m, 0, none⟩)] w fun e w' => e = .returned (.bool true) ∧ ∃ n, w' = w.drewN n := by
  obtain ⟨hlt, hfg, Bv, Cv, Pv, bs, vs, hblk, hB, hbs, hC, hvs, hP⟩ := h.ref
  obtain ⟨A1, c1, rfl, _⟩ := hB.form
  obtain ⟨A2, c2, rfl, _⟩ := hC.form
  have x0 : w.cell? ⟨m, 0, none⟩ = some (.slice A1 st.blocks.length c1) := hblk.cell 0
  have x1 : w.cell? ⟨m, 1, none⟩ = some (.slice A2 st.cache.length c2) := hblk.cell 1
  have xo : ∀ k, k < 4 → w.cell? ⟨m, 3 + k, none⟩ = some (.int .i64 (st.counted k)) := by
    intro k hk
    have : k = 0 ∨ k = 1 ∨ k = 2 ∨ k = 3 := by omega
    rcases this with rfl | rfl | rfl | rfl
    · have := hblk.cell 3; simpa [refCells, num, hz, PSt.counted] using this
    · exact hblk.cell 4
    · exact hblk.cell 5
    · exact hblk.cell 6
  have Xo := Lib.hid xo
  have hd := h.dev
  clear hlt hfg hblk hB hbs hC hvs hP xo h
  go_enter Try.func13, Try.ntmps13
  go_wp2_with fail
  go_quiet ((first
    | (go_at_call 25; with_reducible exact q_blocks hd _)
    | (go_at_call 15; with_reducible exact q_cached hd _)))
  go_wp2_with fail
  go_loopw [5] (fun v wr => ∃ k : Nat, k ≤ 4 ∧ v = .int .i64 k ∧ ∃ n, wr = w.drewN n) (fun v _ => 4 - (intOf v).toNat)
  case atStart => exact ⟨0, by omega, rfl, _, rfl⟩
  case round =>
    obtain ⟨k, hk, rfl, n, rfl⟩ := hrel
    by_cases hlt : k < 4
    · have q4 : decide ((k : Int) < 4) = true := by simp; omega
      have xk := Xo.out k hlt
      go_wp2_with fail
      go_quiet ((go_at_call 23; exact q_count2 hd _ _ _))
      go_wp2_with fail
      go_roundw
      case rel => exact ⟨k + 1, by omega, by go_num, _, rfl⟩
      case measure => simp [intOf]; omega
    · have hk4 : k = 4 := by omega
      subst hk4
      clear hlt hk
      have q4 : decide (((4 : Nat) : Int) < 4) = false := rfl
      have c4 := Lib.hid (q_count hd 4 n)
      rw [show st.counted 4 = 0 from rfl] at c4
      go_wp2_with (go_at_call 23; refine c4.out.mono ?_; rintro e w' ⟨rfl, n2, rfl⟩)
      go_ret
      exact ⟨rfl, _, rfl⟩
end
end Go.Proofs.Ytdengokonaljpaa
