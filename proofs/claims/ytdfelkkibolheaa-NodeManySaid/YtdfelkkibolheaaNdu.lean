/- The document's reader by its state: Num and End. -/
import Derived.Test.YtdfelkkibolheaaNd3
import Derived.Test.YtdfelkkibolheaaRefcell2
namespace Go.Proofs.Ytdfelkkibolheaa
open Go.RowKit Vint

set_option maxHeartbeats 2000000 in
theorem refNum_err {w : World} {M n c a e : Nat} {A : Option Addr} (h : Blk w M 38 (rcCells A n c a e)) (he : e ≠ 0) :
    Calls Try.prog 27 #[.pointer (some ⟨M, 0, none⟩)] w fun r w' => r = .returned (.int .i64 0) ∧ w' = w := by
  have k2 : w.cell? ⟨M, 2, none⟩ = some (.int .i64 (e : Int)) := h.cell 2
  have q1 : ((e : Int) == 0) = false := by rw [beq_eq_false_iff_ne]; omega
  clear h he
  go_enter Try.func27, Try.ntmps27
  go_wp2_with fail
  go_loopw [3, 4] (fun v i wr => v = .int .i64 0 ∧ i = .int .i64 0 ∧ wr = w) (fun _ _ _ => 0)
  case atStart => exact ⟨rfl, rfl, rfl⟩
  case round =>
    obtain ⟨rfl, rfl, hwr⟩ := hrel
    subst hwr
    go_wp2_with fail
    go_ret
    exact ⟨rfl, rfl⟩

/-- What a reader's block says of its state. -/
def RCs (b : List Nat) (a e : Nat) : Nd.St → Prop
  | .ok s => e = 0 ∧ a ≤ b.length ∧ s = b.drop a
  | .error k => e = k ∧ k ≠ 0
/-- Block M is the document's reader of the bytes b, in the state st. -/
structure RC (w : World) (M : Nat) (A : Option Addr) (b : List Nat) (c : Nat) (st : Nd.St) : Prop where
  hb : ∀ x ∈ b, x < 256
  len : b.length ≤ 1000000000
  sl : Sl w M A (byts b)
  ex : ∃ a e, Blk w M 38 (rcCells A b.length c a e) ∧ RCs b a e st
section
variable {w w' : World} {M c : Nat} {A : Option Addr} {b : List Nat} {st : Nd.St}
theorem RC.lt (h : RC w M A b c st) : M < w.heap.size := by obtain ⟨a, e, h, _⟩ := h.ex; exact h.lt
theorem RC.blk (h : RC w M A b c st) : ∃ cs, Blk w M 38 cs := by obtain ⟨a, e, h, _⟩ := h.ex; exact ⟨_, h⟩
theorem RC.keep (h : RC w M A b c st) (hk : ∀ i, i ≤ M → w'.heap[i]? = w.heap[i]?) : RC w' M A b c st := by
  obtain ⟨hb, hl, hs, a, e, hB, hr⟩ := h
  refine ⟨hb, hl, ?_, a, e, hB.keep (hk M (Nat.le_refl _)), hr⟩
  rcases hs with hs | ⟨g, o, e1, e2, e3⟩
  · exact .inl hs
  · refine .inr ⟨g, o, e1, e2, fun i hi => ?_⟩
    have := e3 i hi
    unfold World.cell? at this ⊢
    rw [hk g (Nat.le_of_lt e2)]
    exact this
theorem RC.drew (h : RC w M A b c st) : RC w.drew M A b c st := h.keep fun _ _ => rfl
theorem RC.alloc (h : RC w M A b c st) (o : Obj) : RC (w.alloc o) M A b c st := h.keep fun i hi => Below.heap_alloc w o i (Nat.lt_of_le_of_lt hi h.lt)
theorem RC.set (h : RC w M A b c st) {p : Addr} (hp : M < p.block) (v : Value) : RC (w.setCell p v) M A b c st := h.keep fun i hi => Below.heap_setCell w p v i (by omega)
theorem RC.grown {row : Option Nat} (h : RC w M A b c st) (hg : w.grownBy w' row) (hr : ∀ k, row = some k → M < k) : RC w' M A b c st := h.keep fun i hi => hg.block i (Nat.lt_of_le_of_lt hi h.lt) (fun e => by have := hr i e.symm; omega)
theorem cnum_any (h : RC w M A b c st) : Calls Try.prog 27 #[.pointer (some ⟨M, 0, none⟩)] w fun e w' => e = .returned (.int .i64 ((Nd.nx st).1 : Int)) ∧ RC w' M A b c (Nd.nx st).2 ∧ Chg (FM M) w w' := by
  obtain ⟨hb, hl, hs, a, e, hB, hr⟩ := h
  cases st with
  | error k =>
    obtain ⟨rfl, hk⟩ := hr
    refine (refNum_err hB hk).mono ?_
    rintro r w' ⟨rfl, rfl⟩
    exact ⟨rfl, ⟨hb, hl, hs, a, e, hB, rfl, hk⟩, Chg.refl _ _⟩
  | ok s =>
    obtain ⟨rfl, ha, rfl⟩ := hr
    refine (refNum_any A c M a b hb ha hl w hB hs).mono ?_
    rintro r w' ⟨rfl, ⟨a', hB', ha'⟩, hc⟩
    have hs' : Sl w' M A (byts b) := hs.below (hc.below (Nat.le_of_lt hB.lt) fun i hi => by rw [hi]; exact Nat.le_refl _)
    by_cases h0 : (num (b.drop a)).2.2 = 0
    · rw [Nd.nx_ok h0]
      refine ⟨rfl, ⟨hb, hl, hs', a', _, hB', ?_⟩, hc⟩
      have hk := (num_size h0).2
      rw [List.length_drop] at hk
      have := ha' h0
      exact ⟨h0, by omega, by rw [List.drop_drop, this]⟩
    · rw [Nd.nx_bad h0]
      have h1 := (numF_err (r := 4) (k := 0) (x := 0) (l := b.drop a) h0).1
      have h1 : (num (b.drop a)).1 = 0 := h1
      refine ⟨by rw [h1], ⟨hb, hl, hs', a', _, hB', rfl, h0⟩, hc⟩
/-- How End ends. -/
def endOf : Nd.St → Nat
  | .ok s => if s = [] then 0 else 3
  | .error k => k
theorem cend_any (h : RC w M A b c st) : Calls Try.prog 29 #[.pointer (some ⟨M, 0, none⟩)] w fun e w' => e = .returned (.int .i64 (endOf st : Int)) ∧ Below w.heap.size w w' := by
  obtain ⟨hb, hl, hs, a, e, hB, hr⟩ := h
  cases st with
  | error k =>
    obtain ⟨rfl, hk⟩ := hr
    exact refEnd_bad hB hk
  | ok s =>
    obtain ⟨rfl, ha, rfl⟩ := hr
    by_cases h0 : a < b.length
    · have : endOf (.ok (b.drop a)) = 3 := by
        show (if b.drop a = [] then 0 else 3) = 3
        rw [if_neg]
        intro hn
        have := congrArg List.length hn
        rw [List.length_drop] at this
        simp at this
        omega
      rw [this]
      exact refEnd_long hB h0
    · have : endOf (.ok (b.drop a)) = 0 := by
        show (if b.drop a = [] then 0 else 3) = 0
        rw [if_pos (List.drop_eq_nil_of_le (by omega))]
      rw [this]
      exact refEnd_whole hB (by omega)
end
end Go.Proofs.Ytdfelkkibolheaa
