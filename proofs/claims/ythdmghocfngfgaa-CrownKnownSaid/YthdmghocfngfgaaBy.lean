/- Bytes as strings: what string(b) gives, for any slice of bytes; constants []byte("..") . Whole blocks of cells, loaded and stored at once (arrays by value). Slices of bytes: those that may be read (By), those of the call's own (Mine), whole blocks (ByBlk), rows of noughts; numbers out of bytes. How a function that unpacks ends: the bytes and the error. Rows of bytes of one's own: appended to, kept. -/
import Derived.Test.YthdmghocfngfgaaLaw
import Derived.Test.YthdmghocfngfgaaChecked
import Derived.Laws.BytesArg
import Derived.Shelf.Bytes.SlSmallAll
import Derived.Lib.SlBytesConst
import Derived.WalkKit
import Derived.Lib.LazyBuf
import Derived.Deep.WholeRow
import Derived.BigQuiet
import Derived.WalkSpells
import Derived.WalkLawsBesides
import Derived.Handy
import Derived.IntWalk
import Derived.Lib.Hide
import Derived.Deep.OwnRows
import Derived.Deep.DeepCutAuto
namespace Go.Proofs.Ythdmghocfngfgaa
open Go.RowKit

/-- Bytes as a string. -/
def bstr (l : List Nat) : ByteArray := strOfNums (l.map fun n : Nat => (n : Int))
theorem bstr_inj {l l' : List Nat} (h : ∀ x ∈ l, x < 256) (h' : ∀ x ∈ l', x < 256) (e : bstr l = bstr l') : l = l' := by
  have : (bstr l).data.toList = (bstr l').data.toList := by rw [e]
  unfold bstr at this
  rw [strOfNums_data, strOfNums_data, List.map_map, List.map_map] at this
  have inj : ∀ (l l' : List Nat), (∀ x ∈ l, x < 256) → (∀ x ∈ l', x < 256) → l.map (fun n => UInt8.ofNat n) = l'.map (fun n => UInt8.ofNat n) → l = l' := by
    intro l
    induction l with
    | nil => intro l' _ _ e; cases l' with
      | nil => rfl
      | cons => simp at e
    | cons a l ih =>
      intro l' h h' e
      cases l' with
      | nil => simp at e
      | cons b l' =>
        simp only [List.map_cons, List.cons.injEq] at e
        have ha := h a (List.mem_cons_self ..)
        have hb := h' b (List.mem_cons_self ..)
        have e1 : a = b := by
          have := congrArg UInt8.toNat e.1
          simp only [UInt8.toNat_ofNat'] at this
          omega
        rw [e1, ih l' (fun x hx => h x (List.mem_cons_of_mem _ hx)) (fun x hx => h' x (List.mem_cons_of_mem _ hx)) e.2]
  exact inj l l' h h' this
theorem conv_b {w : World} {B : Nat} {A : Option Addr} {cap : Nat} {l : List Nat} (h : Sl w B A (byts l)) : (convert 28 9 (.slice A l.length cap)).run Try.prog w = .ok (.string (bstr l)) w := by
  rcases h with h0 | ⟨b, o, rfl, _, hc⟩
  · have : l = [] := by cases l with
      | nil => rfl
      | cons a r => simp [byts] at h0
    subst this
    exact run_convert_bytes_zero w 28 5 Try.underlying28 Try.underlying5 A cap _ Try.underlying9
  · refine run_convert_bytes_arg (P := Try.prog) w 28 5 Try.underlying28 Try.underlying5 b o l.length cap (l.map fun n : Nat => (n : Int)) (by simp) (fun i hi => ?_) _ Try.underlying9
    rw [hc i (by rw [byts_length]; exact hi)]
    simp [byts, List.getD, hi]
/-- A constant of bytes that was just made. -/
theorem run_const {w : World} {C : Array Value} {n c g : Nat} (hg : g = w.heap.size) :
    (convert 28 28 (.slice (some ⟨g, 0, none⟩) n c)).run Try.prog (w.alloc (.cells C 5)) = .ok (.slice (some ⟨g, 0, none⟩) n c) (w.alloc (.cells C 5 (C.size, C.size + 1))) := by
  subst hg
  exact Lib.run_convert_bytes_const w _ _ C n c Try.underlying28 Try.underlying5
/-- Bytes that were just laid. -/
theorem sl_cells {w : World} {cs : Array Value} {l : List Nat} (h : cs = (byts l).toArray) : Sl (w.alloc (.cells cs 5)) (w.heap.size + 1) (some ⟨w.heap.size, 0, none⟩) (byts l) := .inr ⟨w.heap.size, 0, rfl, by omega, fun i hi => by
  rw [Nat.zero_add, cell_fresh rfl, h]; simp [List.getElem?_eq_getElem hi]⟩
end Go.Proofs.Ythdmghocfngfgaa

namespace Go.Proofs.Ythdmghocfngfgaa
open Go.RowKit

theorem load_blk {W : World} {b N : Nat} {t : TypeId} {cs : Array Value} (hl : cs.size = N) (h : Blk W b t cs) : (loadCellsFrom ⟨b, 0, none⟩ 0 N #[]).run Try.prog W = .ok cs W := by
  have := run_loadCells_list (P := Try.prog) W ⟨b, 0, none⟩ cs.toList (fun j v hv => by rw [Addr.add_lit, Nat.zero_add, h.cell]; simpa using hv)
  rw [Array.length_toList, hl, Array.toArray_toList] at this
  exact this
theorem set_all (cs : Array Value) : ∀ (ds : List Value) (o : Nat), o + ds.length = cs.size → ∀ (W : World) (b : Nat) (t : TypeId) (pre : List Value), pre.length = o → Blk W b t (pre ++ (cs.toList.drop o)).toArray → Blk (W.setCells b o ds) b t (pre ++ ds).toArray
  | [], o, h, W, b, t, pre, hp, hb => by
    have : cs.toList.drop o = [] := List.drop_eq_nil_of_le (by rw [Array.length_toList]; simp at h; omega)
    rw [this] at hb
    exact hb
  | d :: ds, o, h, W, b, t, pre, hp, hb => by
    have ho : o < cs.toList.length := by rw [Array.length_toList]; simp at h; omega
    have := set_all cs ds (o + 1) (by simp at h; omega) (W.setCell ⟨b, o, none⟩ d) b t (pre ++ [d]) (by simp [hp]) (by
      have hs := hb.set_ o d
      rw [List.drop_eq_getElem_cons ho] at hs
      have e : (pre ++ cs.toList[o] :: cs.toList.drop (o + 1)).toArray.setIfInBounds o d = (pre ++ [d] ++ cs.toList.drop (o + 1)).toArray := by
        simp [List.setIfInBounds_toArray, hp]
      rwa [e] at hs)
    simpa [World.setCells] using this
theorem store_blk {W : World} {b : Nat} {t : TypeId} {cs ds : Array Value} (hl : ds.size = cs.size) (h : Blk W b t cs) (h1 : ∀ u ∈ ds.toList, u.oneCell' = true) :
    (storeCells ⟨b, 0, none⟩ ds.toList 0).run Try.prog W = .ok () (W.setCells b 0 ds.toList) ∧ Blk (W.setCells b 0 ds.toList) b t ds := by
  refine ⟨?_, ?_⟩
  · have := run_storeCells_cells (P := Try.prog) b 0 ds.toList 0 W (fun j hj => by rw [Nat.add_zero, Nat.zero_add, h.cell]; rw [Array.length_toList, hl] at hj; simp [hj]) (fun j _ => h.frozen _) h1
    simpa using this
  · have := set_all cs ds.toList 0 (by simp [hl]) W b t [] rfl (by simpa using h)
    simpa using this
theorem below_cells {B : Nat} {w : World} : ∀ (ds : List Value) (b o : Nat), B ≤ b → Below B w (w.setCells b o ds)
  | [], _, _, _ => Below.refl _ _
  | d :: ds, b, o, h => by
    have h1 : Below B w (w.setCell ⟨b, o, none⟩ d) := (Below.refl _ _).setCell h d
    have h2 := below_cells (w := w.setCell ⟨b, o, none⟩ d) ds b (o + 1) h
    simpa [World.setCells] using h1.trans h2
end Go.Proofs.Ythdmghocfngfgaa

namespace Go.Proofs.Ythdmghocfngfgaa
open Go.RowKit

theorem sl_keep {w w' : World} {A : Option Addr} {xs : List Value} (h : Sl w w.heap.size A xs) (hb : Below w.heap.size w w') : Sl w' w'.heap.size A xs := (h.below hb).more hb.size
theorem getB_lt {l : List Nat} (hl : ∀ x ∈ l, x < 256) (k : Nat) : l.getD k 0 < 256 := by
  rw [List.getD_eq_getElem?_getD]
  rcases Nat.lt_or_ge k l.length with h | h
  · rw [List.getElem?_eq_getElem h]; exact hl _ (List.getElem_mem h)
  · rw [List.getElem?_eq_none h]; decide
theorem getD_at {a b : List Nat} {k : Nat} : (a ++ b).getD (a.length + k) 0 = b.getD k 0 := by
  rw [List.getD_eq_getElem?_getD, List.getElem?_append_right (Nat.le_add_right _ _), Nat.add_sub_cancel_left, ← List.getD_eq_getElem?_getD]
theorem or_byte (k a b : Nat) (hk : k ≤ 24) (ha : a < 2 ^ k) (hb : b < 256) : bits BinOp.or IntKind.i64 (a : Int) ((b : Int) * ((2 ^ k : Nat) : Int)) = ((a + b * 2 ^ k : Nat) : Int) := by
  have hp : 2 ^ k ≤ 2 ^ 24 := Nat.pow_le_pow_right (by decide) hk
  have h1 : b * 2 ^ k ≤ 255 * 2 ^ 24 := Nat.mul_le_mul (by omega) hp
  rw [← Int.natCast_mul, i64_or_nat _ _ (by omega) (by omega), Nat.mul_comm b, Nat.or_comm, ← Nat.two_pow_add_eq_or_of_lt ha, Nat.add_comm]
theorem or8 {a b : Nat} (ha : a < 256) (hb : b < 256) : bits BinOp.or IntKind.i64 (a : Int) ((b : Int) * 256) = (a : Int) + (b : Int) * 256 := or_byte 8 a b (by decide) ha hb
theorem or16 {a b c : Nat} (ha : a < 256) (hb : b < 256) (hc : c < 256) : bits BinOp.or IntKind.i64 ((a : Int) + (b : Int) * 256) ((c : Int) * 65536) = (a : Int) + (b : Int) * 256 + (c : Int) * 65536 := or_byte 16 (a + b * 256) c (by decide) (by omega) hc
theorem or24 {a b c d : Nat} (ha : a < 256) (hb : b < 256) (hc : c < 256) (hd : d < 256) : bits BinOp.or IntKind.i64 ((a : Int) + (b : Int) * 256 + (c : Int) * 65536) ((d : Int) * 16777216) = (a : Int) + (b : Int) * 256 + (c : Int) * 65536 + (d : Int) * 16777216 := or_byte 24 (a + b * 256 + c * 65536) d (by decide) (by omega) hd

theorem sl_cell {w : World} {B : Nat} {A : Option Addr} {l : List Nat} (h : Sl w B A (byts l)) {k : Nat} (hk : k < l.length) : ∃ b o, A = some ⟨b, o, none⟩ ∧ w.cell? ⟨b, o + k, none⟩ = some (.int .u8 ((l.getD k 0 : Nat) : Int)) := by
  rcases h with h0 | ⟨b, o, e, _, hi⟩
  · have := congrArg List.length h0
    rw [byts_length, List.length_nil] at this
    omega
  · refine ⟨b, o, e, ?_⟩
    rw [hi k (by rw [byts_length]; exact hk)]
    simp [byts, List.getD_eq_getElem?_getD, List.getElem?_eq_getElem hk]

theorem drewN_zero (w : World) : w.drewN 0 = w := by cases w; rfl
/-- Bytes that a call built in new memory. -/
def Built (w : World) (n : Nat) (l : List Nat) (e : Ending) (w' : World) : Prop :=
  ∃ A c, e = .returned (.slice A n c) ∧ w'.ownsRow w.heap.size 5 1 (.slice A n c) n (byts l) ∧ Below w.heap.size w w'
/-- A row of bytes that the call itself made, in the midst of the call. -/
structure Mine (w0 w : World) (A : Option Addr) (n c : Nat) (l : List Nat) : Prop where
  own : w.ownsRow w0.heap.size 5 1 (.slice A n c) n (byts l)
  bel : Below w0.heap.size w0 w
section
variable {w0 w w' : World} {A : Option Addr} {n c : Nat} {l : List Nat}
theorem Mine.len (h : Mine w0 w A n c l) : l.length = n := by
  have := h.own.1
  rw [byts_length] at this
  omega
theorem Mine.below (h : Mine w0 w A n c l) (hb : Below w.heap.size w w') : Mine w0 w' A n c l := ⟨own_keep h.own fun b _ hlt => hb.block b hlt, h.bel.trans (hb.mono h.bel.size)⟩
theorem Mine.sl (h : Mine w0 w A n c l) : Sl w w.heap.size A (byts l) := Sl.of_own h.own
theorem Mine.app (h : Mine w0 w A n c l) {v' : Value} {m n' : Nat} {r : List Nat} (hr : r.length = m) (hn : n + m = n') (h1 : w'.ownsRow w0.heap.size 5 1 v' (n + (byts r).length) (byts l ++ byts r)) (h2 : w.grownBy w' (Value.slice A n c).ownBlock) :
    ∃ A' c', v' = .slice A' n' c' ∧ Mine w0 w' A' n' c' (l ++ r) := by
  rw [byts_length, hr, hn, byts_join] at h1
  obtain ⟨A', c', rfl⟩ := own_slice h1
  exact ⟨A', c', rfl, h1, h.bel.grown h2 h.bel.size fun g hg => (h.own.lt g hg).1⟩
end
theorem drewN_below {w : World} (n : Nat) : Below w.heap.size w (w.drewN n) := ⟨rfl, rfl, rfl, Nat.le_refl _, fun _ _ => rfl⟩
theorem byts_at {l : List Nat} {i : Nat} (h : i < l.length) : (byts l)[i]? = some (.int .u8 ((l.getD i 0 : Nat) : Int)) := by
  unfold byts
  simp [List.getD, h]

theorem byts_set (l : List Nat) (i u : Nat) : (byts l).set i (.int .u8 (u : Int)) = byts (l.set i u) := by unfold byts; rw [List.map_set]
/-- A slice of bytes that may be read. -/
structure By (w : World) (A : Option Addr) (c : Nat) (l : List Nat) : Prop where
  sl : Sl w w.heap.size A (byts l)
  lt : ∀ x ∈ l, x < 256
  cap : l.length ≤ c
  nil : A = none → c = 0
  len : l.length ≤ 1000000
section
variable {w w' : World} {A : Option Addr} {c : Nat} {l d : List Nat}
theorem By.below (h : By w A c l) (hb : Below w.heap.size w w') : By w' A c l := ⟨sl_keep h.sl hb, h.lt, h.cap, h.nil, h.len⟩
theorem By.of_own {base n : Nat} (h : w.ownsRow base 5 1 (.slice A n c) n (byts l)) (hl : ∀ x ∈ l, x < 256) (hlen : l.length ≤ 1000000) : By w A c l := by
  have hn : n = l.length := by have := h.1; rw [byts_length] at this; omega
  subst hn
  exact ⟨Sl.of_own h, hl, own_len h, own_none h, hlen⟩
theorem By.to (h : By w A c l) (k : Nat) : By w A c (l.take k) := ⟨by rw [← byts_take]; exact h.sl.to k, fun x hx => h.lt x (List.mem_of_mem_take hx), by have := h.cap; rw [List.length_take]; omega, h.nil, by have := h.len; rw [List.length_take]; omega⟩
end
theorem By.none (w : World) : By w none 0 [] := ⟨Sl.nil _ _ _, by simp, by simp, fun _ => rfl, by simp⟩
/-- A block of bytes. -/
def ByBlk (w : World) (g : Nat) (L : List Nat) : Prop := Blk w g 5 (byts L).toArray
theorem byblk_cell {w : World} {g : Nat} {L : List Nat} (h : ByBlk w g L) {i : Nat} (hi : i < L.length) : w.cell? ⟨g, i, none⟩ = some (.int .u8 ((L.getD i 0 : Nat) : Int)) := by
  have := Blk.cell h i
  rw [this]
  simp [byts, List.getD_eq_getElem?_getD, List.getElem?_eq_getElem hi]
theorem byblk_set {w : World} {g : Nat} {L : List Nat} (h : ByBlk w g L) (i x : Nat) {v : Value} (hv : v = .int .u8 (x : Int)) : ByBlk (w.setCell ⟨g, i, none⟩ v) g (L.set i x) := by
  subst hv
  have := Blk.set_ h i (.int .u8 (x : Int))
  unfold ByBlk
  rw [List.setIfInBounds_toArray] at this
  rw [show byts (L.set i x) = (byts L).set i (.int .u8 (x : Int)) by unfold byts; rw [List.map_set]]
  exact this
theorem byblk_own {w : World} {g base : Nat} {L : List Nat} (h : ByBlk w g L) (hb : base ≤ g) {n : Nat} (hn : n = L.length) (hm : n ≤ maxLen) : w.ownsRow base 5 1 (.slice (some ⟨g, 0, none⟩) n n) n (byts L) := by
  subst hn
  exact ⟨by simp [byts_length], .inr ⟨g, L.length, (byts L).toArray, rfl, hb, h, Nat.le_refl _, hm, by simp [byts_length], by rw [Nat.mul_one, ← byts_length L]; exact List.take_length⟩⟩
theorem byblk_sl {w : World} {g : Nat} {L : List Nat} (h : ByBlk w g L) : Sl w w.heap.size (some ⟨g, 0, none⟩) (byts L) :=
  .inr ⟨g, 0, rfl, Blk.lt h, fun i hi => by
    rw [Nat.zero_add, Blk.cell h i]
    simp [List.getElem?_eq_getElem hi]⟩
theorem byte_info : (Try.prog.info? 5).map (fun i => (i.zero, i.size, i.bytes)) = some (some (.int .u8 0), 1, 1) := by kernel_rfl
theorem byte_sz : (Try.prog.info? 5).map (·.size) = some 1 := by kernel_rfl
/-- n zero bytes, as cells. -/
def zcells (n : Nat) : Array Value := madeCells #[.int .u8 0] n
theorem make_bytes (n : Nat) (hn : n ≤ 281474976710656) (w : World) :
    (Instr.makeSlice 28 (.int .i64 (n : Int)) (.int .i64 (n : Int))).run Try.prog w = .ok (.slice (some ⟨w.heap.size, 0, none⟩) n n) (w.alloc (.cells (zcells n) 5)) :=
  run_make_row' _ _ _ 1 Try.underlying28 byte_info rfl .i64 .i64 n (by omega) (by omega) w
theorem zcells_list (n : Nat) : (zcells n).toList = byts (List.replicate n 0) := by
  unfold zcells byts
  rw [toList_madeCells_one, List.map_replicate]; rfl
theorem byblk_zeros (w : World) (n : Nat) : ByBlk (w.alloc (.cells (zcells n) 5)) w.heap.size (List.replicate n 0) := by
  unfold ByBlk
  rw [← zcells_list, Array.toArray_toList]
  exact Blk.new _ _ _
theorem byblk_below {w w' : World} {g : Nat} {L : List Nat} (h : ByBlk w g L) (hb : Below w.heap.size w w') : ByBlk w' g L := Blk.keep h (hb.block g (Blk.lt h))

theorem by_zeros (w : World) (n : Nat) (hn : n ≤ 1000000) : By (w.alloc (.cells (zcells n) 5)) (some ⟨w.heap.size, 0, none⟩) n (List.replicate n 0) :=
  ⟨byblk_sl (byblk_zeros w n), by intro x hx; rw [List.eq_of_mem_replicate hx]; decide, by rw [List.length_replicate]; exact Nat.le_refl _, by simp, by rw [List.length_replicate]; exact hn⟩

theorem by_lit {w : World} {cs : Array Value} {l : List Nat} {n : Nat} (h : cs = (byts l).toArray) (hn : n = l.length) (hl : ∀ x ∈ l, x < 256) (hs : l.length ≤ 1000000) : By (w.alloc (.cells cs 5)) (some ⟨w.heap.size, 0, none⟩) n l :=
  ⟨(sl_cells h).more (by simp), hl, by omega, by simp, hs⟩
theorem mine_empty {w0 w : World} (h : Below w0.heap.size w0 w) : Mine w0 (w.alloc (.cells #[] 5)) (some ⟨w.heap.size, 0, none⟩) 0 0 [] := ⟨World.ownsRow_base (own_empty w) h.size, h.alloc h.size _⟩
end Go.Proofs.Ythdmghocfngfgaa

namespace Go.Proofs.Ythdmghocfngfgaa
open Go.RowKit

/-- How Unpack ends: the bytes and the error. -/
def UnpR (R : List Nat × Nat) (w : World) (e : Ending) (w' : World) : Prop :=
  ∃ A c, e = .returned (.tuple #[.slice A R.1.length c, .int .i64 (R.2 : Int)]) ∧ By w' A c R.1 ∧ Below w.heap.size w w'
theorem unpR_no {R : List Nat × Nat} {w w' : World} {E : Nat} (h : R = ([], E)) (hb : Below w.heap.size w w') : UnpR R w (.returned (.tuple #[.slice none 0 0, .int .i64 (E : Int)])) w' := by
  subst h
  exact ⟨none, 0, rfl, By.none _, hb⟩
theorem unpR_ok {R : List Nat × Nat} {w w' : World} {o : List Nat} {A : Option Addr} {n c : Nat} (h : R = (o, 0)) (hm : Mine w w' A n c o) (hl : ∀ x ∈ o, x < 256) (hn : n ≤ 1000000) : UnpR R w (.returned (.tuple #[.slice A n c, .int .i64 0])) w' := by
  subst h
  have hlen := hm.len
  exact ⟨A, c, by rw [hlen]; rfl, By.of_own hm.own hl (by rw [hlen]; exact hn), hm.bel⟩
/-- How Unpack ends where it gives the bytes. -/
theorem unpR_is {R : List Nat × Nat} {l : List Nat} {w w' : World} {e : Ending} (h : R = (l, 0)) (hu : UnpR R w e w') : ∃ A c, e = .returned (.tuple #[.slice A l.length c, .int .i64 0]) ∧ By w' A c l ∧ Below w.heap.size w w' := by
  subst h; exact hu
theorem unpR_err {R : List Nat × Nat} {E : Nat} {w w' : World} {e : Ending} (h : R = ([], E)) (hu : UnpR R w e w') : ∃ A c, e = .returned (.tuple #[.slice A 0 c, .int .i64 (E : Int)]) ∧ By w' A c [] ∧ Below w.heap.size w w' := by
  subst h; exact hu
end Go.Proofs.Ythdmghocfngfgaa

namespace Go.Proofs.Ythdmghocfngfgaa
open Go.RowKit

theorem chg_below {F : Nat → Prop} {W w w' : World} (h : Chg F W w) (hb : Below W.heap.size w w') : Chg F W w' :=
  ⟨hb.os.trans h.os, hb.tape.trans h.tape, hb.output.trans h.output, Nat.le_trans h.size hb.size, fun b hlt hF => (hb.block b hlt).trans (h.block b hlt hF)⟩
abbrev OwnB (w : World) (B : Nat) (A : Option Addr) (n c : Nat) (l : List Nat) : Prop := w.ownsRow B 5 1 (.slice A n c) n (byts l)
section
variable {w w' : World} {B n c : Nat} {A : Option Addr} {l : List Nat}
theorem ownB_len (h : OwnB w B A n c l) : l.length = n := by
  have := h.1
  rw [byts_length] at this
  omega
theorem ownB_app (h : OwnB w B A n c l) (hB : B ≤ w.heap.size) {v' : Value} {m n' : Nat} {r : List Nat} (hr : r.length = m) (hn : n + m = n') (h1 : w'.ownsRow B 5 1 v' (n + (byts r).length) (byts l ++ byts r)) (h2 : w.grownBy w' (Value.slice A n c).ownBlock) :
    ∃ A' c', v' = .slice A' n' c' ∧ OwnB w' B A' n' c' (l ++ r) ∧ Below B w w' := by
  rw [byts_length, hr, hn, byts_join] at h1
  obtain ⟨A', c', rfl⟩ := own_slice h1
  exact ⟨A', c', rfl, h1, (Below.refl B w).grown h2 hB fun g hg => (h.lt g hg).1⟩
end

/-- The block that a slice of one's own lies in. -/
def bk (A : Option Addr) : Option Nat := (Value.slice A 0 0).ownBlock
theorem bk_own (A : Option Addr) (n c : Nat) : (Value.slice A n c).ownBlock = bk A := by cases A <;> rfl
/-- A row has been appended to: only its own block has changed; it may lie in a new one. -/
structure Ap (B : Nat) (w w' : World) (A A' : Option Addr) : Prop where
  chg : Chg (fun b => bk A = some b) w w'
  new : ∀ b, bk A' = some b → bk A = some b ∨ w.heap.size ≤ b
  bel : Below B w w'
section
variable {B n c : Nat} {w w1 w2 : World} {A A1 A2 : Option Addr} {l : List Nat}
theorem Ap.trans (h : Ap B w w1 A A1) (k : Ap B w1 w2 A1 A2) : Ap B w w2 A A2 := by
  have hs := h.chg.size
  refine ⟨⟨k.chg.os.trans h.chg.os, k.chg.tape.trans h.chg.tape, k.chg.output.trans h.chg.output, Nat.le_trans hs k.chg.size, fun b hb hne => ?_⟩, fun b hb => ?_, h.bel.trans k.bel⟩
  · refine (k.chg.block b (by omega) fun hk => ?_).trans (h.chg.block b hb hne)
    rcases h.new b hk with h' | h'
    · exact hne h'
    · omega
  · rcases k.new b hb with h' | h'
    · exact h.new b h'
    · exact .inr (by omega)
theorem Ap.refl (B : Nat) (w : World) (A : Option Addr) : Ap B w w A A := ⟨Chg.refl _ _, fun _ h => .inl h, Below.refl _ _⟩
theorem Ap.alloc (h : Ap B w w1 A A1) (hB : B ≤ w.heap.size) (o : Obj) : Ap B w (w1.alloc o) A A1 := ⟨h.chg.alloc o, h.new, h.bel.alloc (Nat.le_trans hB h.chg.size) o⟩
theorem ownB_alloc (h : OwnB w B A n c l) (o : Obj) : OwnB (w.alloc o) B A n c l := own_keep h fun _ _ hlt => Below.heap_alloc _ _ _ hlt
theorem ap_app (h : OwnB w B A n c l) (hB : B ≤ w.heap.size) {w' : World} {v' : Value} {m n' : Nat} {r : List Nat} (hr : r.length = m) (hn : n + m = n') (h1 : w'.ownsRow B 5 1 v' (n + (byts r).length) (byts l ++ byts r)) (h2 : w.grownBy w' (Value.slice A n c).ownBlock)
    (h3 : v'.ownBlock = (Value.slice A n c).ownBlock ∨ v'.ownBlock = some w.heap.size) : ∃ A' c', v' = .slice A' n' c' ∧ OwnB w' B A' n' c' (l ++ r) ∧ Ap B w w' A A' := by
  obtain ⟨A', c', rfl, ho, hb⟩ := ownB_app h hB hr hn h1 h2
  rw [bk_own] at h2
  rw [bk_own, bk_own] at h3
  refine ⟨A', c', rfl, ho, (Chg.refl _ w).grown h2 (fun k hk => .inl hk), fun b hb => ?_, hb⟩
  rcases h3 with h3 | h3
  · exact .inl (by rw [← h3]; exact hb)
  · rw [h3] at hb; injection hb with hb; exact .inr (by omega)
end
/-- A row with r appended is returned. -/
def AppR (B : Nat) (A : Option Addr) (n : Nat) (o r : List Nat) (w : World) (e : Ending) (w' : World) : Prop :=
  ∃ A' c', e = .returned (.slice A' (n + r.length) c') ∧ OwnB w' B A' (n + r.length) c' (o ++ r) ∧ Ap B w w' A A'
end Go.Proofs.Ythdmghocfngfgaa
