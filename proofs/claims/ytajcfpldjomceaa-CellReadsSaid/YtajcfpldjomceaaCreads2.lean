/- CellReads returns true for all arguments; the memory that was there stays as it is. -/
import Derived.Test.YtajcfpldjomceaaCreads
namespace Go.Proofs.Ytajcfpldjomceaa
open Go.RowKit Vint

/-- The statement's variables, as they lie when Read is called. -/
structure Rv (w : World) (K p q V O M : Nat) (A Al : Option Addr) (c cl : Nat) (b : List Nat) (n : Nat) : Prop where
  kp : K ≤ p
  kq : K ≤ q
  kV : K ≤ V
  kO : K ≤ O
  kM : K ≤ M
  m : Blk w M 38 (rcCells A b.length c 0 0)
  lb : Blk w p 22 #[.slice Al n cl]
  bb : Blk w q 24 #[.slice A b.length c]
  v : Blk w V 36 #[.pointer (some ⟨M, 0, none⟩)]
  o : Blk w O 4 #[.bool true]
def RvX (O M : Nat) : Nat → Prop := fun b => b = O ∨ b = M
section
variable {w w1 : World} {K p q V O M R : Nat} {A Al : Option Addr} {c cl : Nat} {b : List Nat} {l : List Part}
theorem reads_call (h : Rv w K p q V O M A Al c cl b l.length) (hb : ∀ x ∈ b, x < 256) (hbc : b.length ≤ c) (hA : A = none → c = 0) (hblen : b.length ≤ 2000) (hlen : l.length ≤ 100) (hsl : Sl w K A (byts b)) (hl : PartsAt w K Al l)
    (hr : Rd w1 (w.heap.size + 1) R (w.heap.size + 1) b 0) (hbw : Below w.heap.size w w1) :
    Calls Try.prog 17 #[.pointer (some ⟨R, 0, none⟩), .pointer (some ⟨p, 0, none⟩), .pointer (some ⟨q, 0, none⟩), .pointer (some ⟨V, 0, none⟩), .pointer (some ⟨O, 0, none⟩)] w1 (ReadsP ⟨K, w.heap.size + 1, R, w.heap.size + 1, p, q, V, O, M⟩ A c b l w1) := by
  have l1 := h.m.lt
  have l2 := h.lb.lt
  have l3 := h.bb.lt
  have l4 := h.v.lt
  have l5 := h.o.lt
  have hk := hbw.mono (show K ≤ w.heap.size by have := h.kp; omega)
  exact reads1_any (P := ⟨K, w.heap.size + 1, R, w.heap.size + 1, p, q, V, O, M⟩) ⟨h.kp, h.kq, h.kV, h.kO, h.kM, Nat.lt_succ_of_lt l2, Nat.lt_succ_of_lt l3, Nat.lt_succ_of_lt l4, Nat.lt_succ_of_lt l5, Nat.lt_succ_of_lt l1⟩
    ⟨by rw [List.drop_zero]; exact hr, h.m.keep (hbw.block _ l1), h.lb.keep (hbw.block _ l2), h.bb.keep (hbw.block _ l3), h.v.keep (hbw.block _ l4), h.o.keep (hbw.block _ l5)⟩ hb hbc hA hblen hlen (hsl.below hk) (hl.below hk)
def ReadsR (z : Int) (O M : Nat) (S : World → Prop) (w : World) (e : Ending) (w' : World) : Prop := e = .returned (.int .i64 z) ∧ Blk w' O 4 #[.bool true] ∧ S w' ∧ Chg (RvX O M) w w'
theorem fp_x {P : Pl} : ∀ i, FP P i → FX (RvX P.O P.M) P.R P.L i := by
  rintro i (h | h | h)
  · exact .inl (.inl h)
  · exact .inl (.inr h)
  · exact .inr h
theorem reads_ok (h : Rv w K p q V O M A Al c cl b l.length) (hb : ∀ x ∈ b, x < 256) (hbc : b.length ≤ c) (hA : A = none → c = 0) (hblen : b.length ≤ 2000) (hlen : l.length ≤ 100) (hsl : Sl w K A (byts b)) (hl : PartsAt w K Al l) (h0 : (rrun l b).1 = 0)
    (t : Bool) (z : Int) (ht : decide (0 < (rrun l b).2.length) = t) (hz : z = if t = true then 3 else 0) :
    Calls Try.prog 16 #[.slice A b.length c, .func (.func 17) #[] #[.pointer (some ⟨p, 0, none⟩), .pointer (some ⟨q, 0, none⟩), .pointer (some ⟨V, 0, none⟩), .pointer (some ⟨O, 0, none⟩)]] w
      (ReadsR z O M (fun w' => ∃ a, a ≤ b.length ∧ (rrun l b).2 = b.drop a ∧ Blk w' M 38 (rcCells A b.length c a 0)) w) := by
  have l1 := h.m.lt
  have l5 := h.o.lt
  have lp := h.lb.lt
  refine (read_ret A c b w hsl (by have := h.kp; omega) hbc hA hb (by omega) 17 #[.pointer (some ⟨p, 0, none⟩), .pointer (some ⟨q, 0, none⟩), .pointer (some ⟨V, 0, none⟩), .pointer (some ⟨O, 0, none⟩)] (fun a w => by kernel_rfl) (RvX O M) (fun i hi => by rcases hi with hi | hi <;> omega) (rrun l b).2
    (fun w' => Blk w' O 4 #[.bool true] ∧ ∃ a, a ≤ b.length ∧ (rrun l b).2 = b.drop a ∧ Blk w' M 38 (rcCells A b.length c a 0)) ?_ t z ht hz).mono ?_
  · intro w1 R hr hbw
    refine (reads_call h hb hbc hA hblen hlen hsl hl hr hbw).mono ?_
    rintro e w2 ⟨hc, ho, ⟨rfl, _, a, ha, hrest, hrd, hm⟩ | ⟨k, hk, _, he, _⟩⟩
    · exact ⟨rfl, by rw [hrest]; exact hrd, hc.mono fp_x, ho, a, ha, hrest, hm⟩
    · rw [h0] at he; omega
  · rintro e w' ⟨rfl, w2, ⟨ho, a, ha, hrest, hm⟩, hk, hc⟩
    exact ⟨rfl, ho.keep (hk.block _ ho.lt (by omega)), ⟨a, ha, hrest, hm.keep (hk.block _ hm.lt (by omega))⟩, hc⟩
theorem reads_bad (h : Rv w K p q V O M A Al c cl b l.length) (hb : ∀ x ∈ b, x < 256) (hbc : b.length ≤ c) (hA : A = none → c = 0) (hblen : b.length ≤ 2000) (hlen : l.length ≤ 100) (hsl : Sl w K A (byts b)) (hl : PartsAt w K Al l) (h0 : (rrun l b).1 ≠ 0) :
    Calls Try.prog 16 #[.slice A b.length c, .func (.func 17) #[] #[.pointer (some ⟨p, 0, none⟩), .pointer (some ⟨q, 0, none⟩), .pointer (some ⟨V, 0, none⟩), .pointer (some ⟨O, 0, none⟩)]] w
      (ReadsR (rrun l b).1 O M (fun w' => ∃ a e : Nat, (rrun l b).1 = (e : Int) ∧ e ≠ 0 ∧ Blk w' M 38 (rcCells A b.length c a e)) w) := by
  have l1 := h.m.lt
  have l5 := h.o.lt
  have lp := h.lb.lt
  refine (read_errx A c b w hsl (by have := h.kp; omega) hbc hA hb (by omega) 17 #[.pointer (some ⟨p, 0, none⟩), .pointer (some ⟨q, 0, none⟩), .pointer (some ⟨V, 0, none⟩), .pointer (some ⟨O, 0, none⟩)] (fun a w => by kernel_rfl) (RvX O M) (fun i hi => by rcases hi with hi | hi <;> omega) (rrun l b).1 h0
    (fun w' => Blk w' O 4 #[.bool true] ∧ ∃ a e : Nat, (rrun l b).1 = (e : Int) ∧ e ≠ 0 ∧ Blk w' M 38 (rcCells A b.length c a e)) ?_).mono ?_
  · intro w1 R hr hbw
    refine (reads_call h hb hbc hA hblen hlen hsl hl hr hbw).mono ?_
    rintro e w2 ⟨hc, ho, ⟨_, he, _⟩ | ⟨k, hk, rfl, he, a, s, hrd, hm⟩⟩
    · exact absurd he h0
    · exact ⟨by rw [he], ⟨s, by rw [he]; exact hrd⟩, hc.mono fp_x, ho, a, k, he, hk, hm⟩
  · rintro e w' ⟨rfl, w2, ⟨ho, a, k, he, hk0, hm⟩, hk, hc⟩
    exact ⟨rfl, ho.keep (hk.block _ ho.lt (by omega)), ⟨a, k, he, hk0, hm.keep (hk.block _ hm.lt (by omega))⟩, hc⟩
end
end Go.Proofs.Ytajcfpldjomceaa
