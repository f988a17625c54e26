/- Slices of bytes: those that may be read (By), those of the call's own (Mine), whole blocks (ByBlk), rows of noughts; numbers out of bytes. -/
import Derived.Test.YtpaefpjggglmaaaOwn
import Derived.Test.YtpaefpjggglmaaaBits
import Derived.Test.YtpaefpjggglmaaaCutS
import Derived.Test.YtpaefpjggglmaaaStr
import Derived.BigQuiet
import Derived.WalkKit
import Derived.WalkSpells
import Derived.WalkLawsBesides
import Derived.Handy
import Derived.IntWalk
import Derived.Lib.Hide
import Derived.Deep.OwnRows
import Derived.Deep.DeepCutAuto
namespace Go.Proofs.Ytpaefpjggglmaaa
open Go.RowKit

theorem sl_keep {w w' : World} {A : Option Addr} {xs : List Value} (h : Sl w w.heap.size A xs) (hb : Below w.heap.size w w') : Sl w' w'.heap.size A xs := (h.below hb).more hb.size
theorem getB_lt {l : List Nat} (hl : ∀ x ∈ l, x < 256) (k : Nat) : l.getD k 0 < 256 := by
  rw [List.getD_eq_getElem?_getD]
  rcases Nat.lt_or_ge k l.length with h | h
  · rw [List.getElem?_eq_getElem h]; exact hl _ (List.getElem_mem h)
  · rw [List.getElem?_eq_none h]; decide
theorem getD_at {a b : List Nat} {k : Nat} : (a ++ b).getD (a.length + k) 0 = b.getD k 0 := by
  rw [List.getD_eq_getElem?_getD, List.getElem?_append_right (Nat.le_add_right _ _), Nat.add_sub_cancel_left, ← List.getD_eq_getElem?_getD]
theorem or_byte (k a b : Nat) (hk : k ≤ 24) (ha : a < 2 ^ k) (hb : b < 256) : bits BinOp.or IntKind.i64 (a : Int) ((b : Int) * ((2 ^ k : Nat) : Int)) = ((a + b * 2 ^ k : Nat) : Int) := by
  have hp : 2 ^ k ≤ 2 ^ 24 := Nat.pow_le_pow_right (by decide) hk
  have h1 : b * 2 ^ k ≤ 255 * 2 ^ 24 := Nat.mul_le_mul (by omega) hp
  rw [← Int.natCast_mul, i64_or_nat _ _ (by omega) (by omega), Nat.mul_comm b, Nat.or_comm, ← Nat.two_pow_add_eq_or_of_lt ha, Nat.add_comm]
theorem or8 {a b : Nat} (ha : a < 256) (hb : b < 256) : bits BinOp.or IntKind.i64 (a : Int) ((b : Int) * 256) = (a : Int) + (b : Int) * 256 := or_byte 8 a b (by decide) ha hb
theorem or16 {a b c : Nat} (ha : a < 256) (hb : b < 256) (hc : c < 256) : bits BinOp.or IntKind.i64 ((a : Int) + (b : Int) * 256) ((c : Int) * 65536) = (a : Int) + (b : Int) * 256 + (c : Int) * 65536 := or_byte 16 (a + b * 256) c (by decide) (by omega) hc
theorem or24 {a b c d : Nat} (ha : a < 256) (hb : b < 256) (hc : c < 256) (hd : d < 256) : bits BinOp.or IntKind.i64 ((a : Int) + (b : Int) * 256 + (c : Int) * 65536) ((d : Int) * 16777216) = (a : Int) + (b : Int) * 256 + (c : Int) * 65536 + (d : Int) * 16777216 := or_byte 24 (a + b * 256 + c * 65536) d (by decide) (by omega) hd

theorem sl_cell {w : World} {B : Nat} {A : Option Addr} {l : List Nat} (h : Sl w B A (byts l)) {k : Nat} (hk : k < l.length) : ∃ b o, A = some ⟨b, o, none⟩ ∧ w.cell? ⟨b, o + k, none⟩ = some (.int .u8 ((l.getD k 0 : Nat) : Int)) := by
  rcases h with h0 | ⟨b, o, e, _, hi⟩
  · have := congrArg List.length h0
    rw [byts_length, List.length_nil] at this
    omega
  · refine ⟨b, o, e, ?_⟩
    rw [hi k (by rw [byts_length]; exact hk)]
    simp [byts, List.getD_eq_getElem?_getD, List.getElem?_eq_getElem hk]

theorem drewN_zero (w : World) : w.drewN 0 = w := by cases w; rfl
/-- Bytes that a call built in new memory. -/
def Built (w : World) (n : Nat) (l : List Nat) (e : Ending) (w' : World) : Prop :=
  ∃ A c, e = .returned (.slice A n c) ∧ w'.ownsRow w.heap.size 5 1 (.slice A n c) n (byts l) ∧ Below w.heap.size w w'
/-- A row of bytes that the call itself made, in the midst of the call. -/
structure Mine (w0 w : World) (A : Option Addr) (n c : Nat) (l : List Nat) : Prop where
  own : w.ownsRow w0.heap.size 5 1 (.slice A n c) n (byts l)
  bel : Below w0.heap.size w0 w
section
variable {w0 w w' : World} {A : Option Addr} {n c : Nat} {l : List Nat}
theorem Mine.len (h : Mine w0 w A n c l) : l.length = n := by
  have := h.own.1
  rw [byts_length] at this
  omega
theorem Mine.below (h : Mine w0 w A n c l) (hb : Below w.heap.size w w') : Mine w0 w' A n c l := ⟨own_keep h.own fun b _ hlt => hb.block b hlt, h.bel.trans (hb.mono h.bel.size)⟩
theorem Mine.sl (h : Mine w0 w A n c l) : Sl w w.heap.size A (byts l) := Sl.of_own h.own
theorem Mine.app (h : Mine w0 w A n c l) {v' : Value} {m n' : Nat} {r : List Nat} (hr : r.length = m) (hn : n + m = n') (h1 : w'.ownsRow w0.heap.size 5 1 v' (n + (byts r).length) (byts l ++ byts r)) (h2 : w.grownBy w' (Value.slice A n c).ownBlock) :
    ∃ A' c', v' = .slice A' n' c' ∧ Mine w0 w' A' n' c' (l ++ r) := by
  rw [byts_length, hr, hn, byts_join] at h1
  obtain ⟨A', c', rfl⟩ := own_slice h1
  exact ⟨A', c', rfl, h1, h.bel.grown h2 h.bel.size fun g hg => (h.own.lt g hg).1⟩
end
theorem drewN_below {w : World} (n : Nat) : Below w.heap.size w (w.drewN n) := ⟨rfl, rfl, rfl, Nat.le_refl _, fun _ _ => rfl⟩
theorem byts_at {l : List Nat} {i : Nat} (h : i < l.length) : (byts l)[i]? = some (.int .u8 ((l.getD i 0 : Nat) : Int)) := by
  unfold byts
  simp [List.getD, h]

theorem byts_set (l : List Nat) (i u : Nat) : (byts l).set i (.int .u8 (u : Int)) = byts (l.set i u) := by unfold byts; rw [List.map_set]
/-- A slice of bytes that may be read. -/
structure By (w : World) (A : Option Addr) (c : Nat) (l : List Nat) : Prop where
  sl : Sl w w.heap.size A (byts l)
  lt : ∀ x ∈ l, x < 256
  cap : l.length ≤ c
  nil : A = none → c = 0
  len : l.length ≤ 1000000
section
variable {w w' : World} {A : Option Addr} {c : Nat} {l d : List Nat}
theorem By.below (h : By w A c l) (hb : Below w.heap.size w w') : By w' A c l := ⟨sl_keep h.sl hb, h.lt, h.cap, h.nil, h.len⟩
theorem By.of_own {base n : Nat} (h : w.ownsRow base 5 1 (.slice A n c) n (byts l)) (hl : ∀ x ∈ l, x < 256) (hlen : l.length ≤ 1000000) : By w A c l := by
  have hn : n = l.length := by have := h.1; rw [byts_length] at this; omega
  subst hn
  exact ⟨Sl.of_own h, hl, own_len h, own_none h, hlen⟩
theorem By.to (h : By w A c l) (k : Nat) : By w A c (l.take k) := ⟨by rw [← byts_take]; exact h.sl.to k, fun x hx => h.lt x (List.mem_of_mem_take hx), by have := h.cap; rw [List.length_take]; omega, h.nil, by have := h.len; rw [List.length_take]; omega⟩
end
theorem By.none (w : World) : By w none 0 [] := ⟨Sl.nil _ _ _, by simp, by simp, fun _ => rfl, by simp⟩
/-- A block of bytes. -/
def ByBlk (w : World) (g : Nat) (L : List Nat) : Prop := Blk w g 5 (byts L).toArray
theorem byblk_cell {w : World} {g : Nat} {L : List Nat} (h : ByBlk w g L) {i : Nat} (hi : i < L.length) : w.cell? ⟨g, i, none⟩ = some (.int .u8 ((L.getD i 0 : Nat) : Int)) := by
  have := Blk.cell h i
  rw [this]
  simp [byts, List.getD_eq_getElem?_getD, List.getElem?_eq_getElem hi]
theorem byblk_set {w : World} {g : Nat} {L : List Nat} (h : ByBlk w g L) (i x : Nat) {v : Value} (hv : v = .int .u8 (x : Int)) : ByBlk (w.setCell ⟨g, i, none⟩ v) g (L.set i x) := by
  subst hv
  have := Blk.set_ h i (.int .u8 (x : Int))
  unfold ByBlk
  rw [List.setIfInBounds_toArray] at this
  rw [show byts (L.set i x) = (byts L).set i (.int .u8 (x : Int)) by unfold byts; rw [List.map_set]]
  exact this
theorem byblk_own {w : World} {g base : Nat} {L : List Nat} (h : ByBlk w g L) (hb : base ≤ g) {n : Nat} (hn : n = L.length) (hm : n ≤ maxLen) : w.ownsRow base 5 1 (.slice (some ⟨g, 0, none⟩) n n) n (byts L) := by
  subst hn
  exact ⟨by simp [byts_length], .inr ⟨g, L.length, (byts L).toArray, rfl, hb, h, Nat.le_refl _, hm, by simp [byts_length], by rw [Nat.mul_one, ← byts_length L]; exact List.take_length⟩⟩
theorem byblk_sl {w : World} {g : Nat} {L : List Nat} (h : ByBlk w g L) : Sl w w.heap.size (some ⟨g, 0, none⟩) (byts L) :=
  .inr ⟨g, 0, rfl, Blk.lt h, fun i hi => by
    rw [Nat.zero_add, Blk.cell h i]
    simp [List.getElem?_eq_getElem hi]⟩
theorem byte_info : (Try.prog.info? 5).map (fun i => (i.zero, i.size, i.bytes)) = some (some (.int .u8 0), 1, 1) := by kernel_rfl
theorem byte_sz : (Try.prog.info? 5).map (·.size) = some 1 := by kernel_rfl
/-- n zero bytes, as cells. -/
def zcells (n : Nat) : Array Value := madeCells #[.int .u8 0] n
theorem make_bytes (n : Nat) (hn : n ≤ 281474976710656) (w : World) :
    (Instr.makeSlice 22 (.int .i64 (n : Int)) (.int .i64 (n : Int))).run Try.prog w = .ok (.slice (some ⟨w.heap.size, 0, none⟩) n n) (w.alloc (.cells (zcells n) 5)) :=
  run_make_row' _ _ _ 1 Try.underlying22 byte_info rfl .i64 .i64 n (by omega) (by omega) w
theorem zcells_list (n : Nat) : (zcells n).toList = byts (List.replicate n 0) := by
  unfold zcells byts
  rw [toList_madeCells_one, List.map_replicate]; rfl
theorem byblk_zeros (w : World) (n : Nat) : ByBlk (w.alloc (.cells (zcells n) 5)) w.heap.size (List.replicate n 0) := by
  unfold ByBlk
  rw [← zcells_list, Array.toArray_toList]
  exact Blk.new _ _ _
theorem byblk_below {w w' : World} {g : Nat} {L : List Nat} (h : ByBlk w g L) (hb : Below w.heap.size w w') : ByBlk w' g L := Blk.keep h (hb.block g (Blk.lt h))

theorem by_zeros (w : World) (n : Nat) (hn : n ≤ 1000000) : By (w.alloc (.cells (zcells n) 5)) (some ⟨w.heap.size, 0, none⟩) n (List.replicate n 0) :=
  ⟨byblk_sl (byblk_zeros w n), by intro x hx; rw [List.eq_of_mem_replicate hx]; decide, by rw [List.length_replicate]; exact Nat.le_refl _, by simp, by rw [List.length_replicate]; exact hn⟩

theorem by_lit {w : World} {cs : Array Value} {l : List Nat} {n : Nat} (h : cs = (byts l).toArray) (hn : n = l.length) (hl : ∀ x ∈ l, x < 256) (hs : l.length ≤ 1000000) : By (w.alloc (.cells cs 5)) (some ⟨w.heap.size, 0, none⟩) n l :=
  ⟨(sl_cells h).more (by simp), hl, by omega, by simp, hs⟩
theorem mine_empty {w0 w : World} (h : Below w0.heap.size w0 w) : Mine w0 (w.alloc (.cells #[] 5)) (some ⟨w.heap.size, 0, none⟩) 0 0 [] := ⟨World.ownsRow_base (own_empty w) h.size, h.alloc h.size _⟩
end Go.Proofs.Ytpaefpjggglmaaa
