/- How few runs are in use, and how seldom; two bits of a number (no walk). -/
import Derived.Test.YtfiafgmlbejboaaShbk
namespace Go.Proofs.Ytfiafgmlbejboaa
open Go.RowKit

theorem and3_u8 {d : Nat} (h : d < 256) : bits BinOp.and IntKind.u8 (d : Int) 3 = ((d % 4 : Nat) : Int) := by
  have h' : ∀ z : Nat, z < 256 → bits BinOp.and IntKind.u8 (z : Int) 3 = ((z % 4 : Nat) : Int) := by decide +kernel
  exact h' d h
/-- So few, used so seldom. -/
def Cap (N : Nat) (l : List Sh.U) : Prop := l.length ≤ N ∧ ∀ u ∈ l, u.1 ≤ 1000000 ∧ u.2.1 ≤ 1000000 ∧ u.2.2 ≤ N
theorem Cap.uok {N : Nat} {l : List Sh.U} (h : Cap N l) (hN : N ≤ 100000) : UOk l := ⟨Nat.le_trans h.1 hN, fun u hu => by have := h.2 u hu; exact ⟨this.1, this.2.1, by omega⟩⟩
theorem Cap.more {N M : Nat} {l : List Sh.U} (h : Cap N l) (hN : N ≤ M) : Cap M l := ⟨Nat.le_trans h.1 hN, fun u hu => by have := h.2 u hu; exact ⟨this.1, this.2.1, by omega⟩⟩
theorem Cap.ins {N : Nat} {l : List Sh.U} (h : Cap N l) {a n : Nat} (ha : a ≤ 1000000) (hn : n ≤ 1000000) : Cap (N + 1) (Sh.ins l a n) := by
  refine ⟨by rw [Sh.ins_len]; have := h.1; omega, fun u hu => ?_⟩
  rcases (Sh.mem_ins u).1 hu with hu | rfl
  · have := h.2 u hu; exact ⟨this.1, this.2.1, by omega⟩
  · exact ⟨ha, hn, by show 1 ≤ N + 1; omega⟩
theorem Cap.change {N : Nat} {l : List Sh.U} (h : Cap N l) (a : Int) (more : Bool) : Cap (N + 1) (Sh.change l a more).2 := by
  unfold Sh.change
  cases hx : Sh.idx l a with
  | none => exact h.more (by omega)
  | some k =>
    simp only
    obtain ⟨hk, -⟩ := Sh.idx_some hx
    split
    · exact h.more (by omega)
    · refine ⟨by rw [Sh.setU_len]; have := h.1; omega, fun u hu => ?_⟩
      have hat : Sh.at_ l k ∈ l := by
        unfold Sh.at_
        rw [List.getD_eq_getElem?_getD, List.getElem?_eq_getElem hk]
        exact List.getElem_mem hk
      have hak := h.2 _ hat
      rcases List.mem_or_eq_of_mem_set hu with hu | rfl
      · have := h.2 u hu; exact ⟨this.1, this.2.1, by omega⟩
      · refine ⟨hak.1, hak.2.1, ?_⟩
        show (if more = true then _ else _) ≤ N + 1
        split <;> omega
theorem Cap.sub {N : Nat} {l l' : List Sh.U} (h : Cap N l) (hs : l'.Sublist l) : Cap N l' := ⟨Nat.le_trans hs.length_le h.1, fun u hu => h.2 u (hs.subset hu)⟩
theorem and3_i64 (n : Int) (hn : -9223372036854775808 ≤ n ∧ n < 9223372036854775808) : bits BinOp.and IntKind.i64 n 3 = (((n % 4).toNat : Nat) : Int) := by
  have e : (BitVec.ofInt 64 n).toNat % 2 ^ 2 = (n % 4).toNat := by
    rw [BitVec.toNat_ofInt]
    omega
  show IntKind.i64.wrap ((BitVec.ofInt 64 n &&& BitVec.ofInt 64 3).toNat : Int) = _
  rw [BitVec.toNat_and, show (BitVec.ofInt 64 3).toNat = 2 ^ 2 - 1 from rfl, Nat.and_two_pow_sub_one_eq_mod, e, IntKind.wrap_i64]
  omega
end Go.Proofs.Ytfiafgmlbejboaa
