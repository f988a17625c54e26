/- Bytes as strings: what string(b) gives, for any slice of bytes; constants []byte("..") . Whole blocks of cells, loaded and stored at once (arrays by value). Slices of bytes: those that may be read (By), those of the call's own (Mine), whole blocks (ByBlk), rows of noughts; numbers out of bytes. How a function that unpacks ends: the bytes and the error. Rows of bytes of one's own: appended to, kept. The document's map of free blocks: List, Greatest. The document's Shares: where it lies; at, Uses. Rows whose elements are several cells: resliced, copied, cleared, appended onto within their room, made longer by zeros; a law for an operation whose run is known. -/
import Derived.Test.YtaainefdjbmekaaSba
import Derived.Test.YtaainefdjbmekaaSbi
import Derived.Test.YtaainefdjbmekaaSbj
import Derived.Laws.BytesArg
import Derived.Shelf.Bytes.SlSmallAll
import Derived.Lib.SlBytesConst
import Derived.WalkKit
import Derived.Lib.LazyBuf
import Derived.Deep.WholeRow
import Derived.BigQuiet
import Derived.WalkSpells
import Derived.WalkLawsBesides
import Derived.Handy
import Derived.IntWalk
import Derived.Lib.Hide
import Derived.Deep.OwnRows
import Derived.Deep.DeepCutAuto
import Derived.Test.YtaainefdjbmekaaChecked
import Derived.BigRegion
import Derived.Laws.CopyOwn
import Derived.Laws.Externs
import Derived.Lib.AppendZerosOnto
import Derived.Lib.Overlaps
namespace Go.Proofs.Ytaainefdjbmekaa
open Go.RowKit
end Go.Proofs.Ytaainefdjbmekaa
namespace Go.Proofs.Ytaainefdjbmekaa
open Go.RowKit
theorem load_blk {W : World} {b N : Nat} {t : TypeId} {cs : Array Value} (hl : cs.size = N) (h : Blk W b t cs) : (loadCellsFrom ⟨b, 0, none⟩ 0 N #[]).run Try.prog W = .ok cs W := by
  have := run_loadCells_list (P := Try.prog) W ⟨b, 0, none⟩ cs.toList (fun j v hv => by rw [Addr.add_lit, Nat.zero_add, h.cell]; simpa using hv)
  rw [Array.length_toList, hl, Array.toArray_toList] at this
  exact this
theorem set_all (cs : Array Value) : ∀ (ds : List Value) (o : Nat), o + ds.length = cs.size → ∀ (W : World) (b : Nat) (t : TypeId) (pre : List Value), pre.length = o → Blk W b t (pre ++ (cs.toList.drop o)).toArray → Blk (W.setCells b o ds) b t (pre ++ ds).toArray
  | [], o, h, W, b, t, pre, hp, hb => by
    have : cs.toList.drop o = [] := List.drop_eq_nil_of_le (by rw [Array.length_toList]; simp at h; omega)
    rw [this] at hb
    exact hb
  | d :: ds, o, h, W, b, t, pre, hp, hb => by
    have ho : o < cs.toList.length := by rw [Array.length_toList]; simp at h; omega
    have := set_all cs ds (o + 1) (by simp at h; omega) (W.setCell ⟨b, o, none⟩ d) b t (pre ++ [d]) (by simp [hp]) (by
      have hs := hb.set_ o d
      rw [List.drop_eq_getElem_cons ho] at hs
      have e : (pre ++ cs.toList[o] :: cs.toList.drop (o + 1)).toArray.setIfInBounds o d = (pre ++ [d] ++ cs.toList.drop (o + 1)).toArray := by
        simp [List.setIfInBounds_toArray, hp]
      rwa [e] at hs)
    simpa [World.setCells] using this
theorem store_blk {W : World} {b : Nat} {t : TypeId} {cs ds : Array Value} (hl : ds.size = cs.size) (h : Blk W b t cs) (h1 : ∀ u ∈ ds.toList, u.oneCell' = true) :
    (storeCells ⟨b, 0, none⟩ ds.toList 0).run Try.prog W = .ok () (W.setCells b 0 ds.toList) ∧ Blk (W.setCells b 0 ds.toList) b t ds := by
  refine ⟨?_, ?_⟩
  · have := run_storeCells_cells (P := Try.prog) b 0 ds.toList 0 W (fun j hj => by rw [Nat.add_zero, Nat.zero_add, h.cell]; rw [Array.length_toList, hl] at hj; simp [hj]) (fun j _ => h.frozen _) h1
    simpa using this
  · have := set_all cs ds.toList 0 (by simp [hl]) W b t [] rfl (by simpa using h)
    simpa using this
end Go.Proofs.Ytaainefdjbmekaa
namespace Go.Proofs.Ytaainefdjbmekaa
open Go.RowKit
theorem sl_keep {w w' : World} {A : Option Addr} {xs : List Value} (h : Sl w w.heap.size A xs) (hb : Below w.heap.size w w') : Sl w' w'.heap.size A xs := (h.below hb).more hb.size
theorem getB_lt {l : List Nat} (hl : ∀ x ∈ l, x < 256) (k : Nat) : l.getD k 0 < 256 := by
  rw [List.getD_eq_getElem?_getD]
  rcases Nat.lt_or_ge k l.length with h | h
  · rw [List.getElem?_eq_getElem h]; exact hl _ (List.getElem_mem h)
  · rw [List.getElem?_eq_none h]; decide
theorem getD_at {a b : List Nat} {k : Nat} : (a ++ b).getD (a.length + k) 0 = b.getD k 0 := by
  rw [List.getD_eq_getElem?_getD, List.getElem?_append_right (Nat.le_add_right _ _), Nat.add_sub_cancel_left, ← List.getD_eq_getElem?_getD]
theorem sl_cell {w : World} {B : Nat} {A : Option Addr} {l : List Nat} (h : Sl w B A (byts l)) {k : Nat} (hk : k < l.length) : ∃ b o, A = some ⟨b, o, none⟩ ∧ w.cell? ⟨b, o + k, none⟩ = some (.int .u8 ((l.getD k 0 : Nat) : Int)) := by
  rcases h with h0 | ⟨b, o, e, _, hi⟩
  · have := congrArg List.length h0
    rw [byts_length, List.length_nil] at this
    omega
  · refine ⟨b, o, e, ?_⟩
    rw [hi k (by rw [byts_length]; exact hk)]
    simp [byts, List.getD_eq_getElem?_getD, List.getElem?_eq_getElem hk]
/-- A row of bytes that the call itself made, in the midst of the call. -/
structure Mine (w0 w : World) (A : Option Addr) (n c : Nat) (l : List Nat) : Prop where
  own : w.ownsRow w0.heap.size 5 1 (.slice A n c) n (byts l)
  bel : Below w0.heap.size w0 w
section
variable {w0 w w' : World} {A : Option Addr} {n c : Nat} {l : List Nat}
theorem Mine.len (h : Mine w0 w A n c l) : l.length = n := by
  have := h.own.1
  rw [byts_length] at this
  omega
theorem Mine.below (h : Mine w0 w A n c l) (hb : Below w.heap.size w w') : Mine w0 w' A n c l := ⟨own_keep h.own fun b _ hlt => hb.block b hlt, h.bel.trans (hb.mono h.bel.size)⟩
theorem Mine.sl (h : Mine w0 w A n c l) : Sl w w.heap.size A (byts l) := Sl.of_own h.own
end
theorem drewN_below {w : World} (n : Nat) : Below w.heap.size w (w.drewN n) := ⟨rfl, rfl, rfl, Nat.le_refl _, fun _ _ => rfl⟩
/-- A slice of bytes that may be read. -/
structure By (w : World) (A : Option Addr) (c : Nat) (l : List Nat) : Prop where
  sl : Sl w w.heap.size A (byts l)
  lt : ∀ x ∈ l, x < 256
  cap : l.length ≤ c
  nil : A = none → c = 0
  len : l.length ≤ 1000000
section
variable {w w' : World} {A : Option Addr} {c : Nat} {l d : List Nat}
theorem By.below (h : By w A c l) (hb : Below w.heap.size w w') : By w' A c l := ⟨sl_keep h.sl hb, h.lt, h.cap, h.nil, h.len⟩
theorem By.of_own {base n : Nat} (h : w.ownsRow base 5 1 (.slice A n c) n (byts l)) (hl : ∀ x ∈ l, x < 256) (hlen : l.length ≤ 1000000) : By w A c l := by
  have hn : n = l.length := by have := h.1; rw [byts_length] at this; omega
  subst hn
  exact ⟨Sl.of_own h, hl, own_len h, own_none h, hlen⟩
theorem By.to (h : By w A c l) (k : Nat) : By w A c (l.take k) := ⟨by rw [← byts_take]; exact h.sl.to k, fun x hx => h.lt x (List.mem_of_mem_take hx), by have := h.cap; rw [List.length_take]; omega, h.nil, by have := h.len; rw [List.length_take]; omega⟩
end
theorem By.none (w : World) : By w none 0 [] := ⟨Sl.nil _ _ _, by simp, by simp, fun _ => rfl, by simp⟩
/-- A block of bytes. -/
def ByBlk (w : World) (g : Nat) (L : List Nat) : Prop := Blk w g 5 (byts L).toArray
theorem byblk_cell {w : World} {g : Nat} {L : List Nat} (h : ByBlk w g L) {i : Nat} (hi : i < L.length) : w.cell? ⟨g, i, none⟩ = some (.int .u8 ((L.getD i 0 : Nat) : Int)) := by
  have := Blk.cell h i
  rw [this]
  simp [byts, List.getD_eq_getElem?_getD, List.getElem?_eq_getElem hi]
theorem byblk_set {w : World} {g : Nat} {L : List Nat} (h : ByBlk w g L) (i x : Nat) {v : Value} (hv : v = .int .u8 (x : Int)) : ByBlk (w.setCell ⟨g, i, none⟩ v) g (L.set i x) := by
  subst hv
  have := Blk.set_ h i (.int .u8 (x : Int))
  unfold ByBlk
  rw [List.setIfInBounds_toArray] at this
  rw [show byts (L.set i x) = (byts L).set i (.int .u8 (x : Int)) by unfold byts; rw [List.map_set]]
  exact this
theorem byblk_own {w : World} {g base : Nat} {L : List Nat} (h : ByBlk w g L) (hb : base ≤ g) {n : Nat} (hn : n = L.length) (hm : n ≤ maxLen) : w.ownsRow base 5 1 (.slice (some ⟨g, 0, none⟩) n n) n (byts L) := by
  subst hn
  exact ⟨by simp [byts_length], .inr ⟨g, L.length, (byts L).toArray, rfl, hb, h, Nat.le_refl _, hm, by simp [byts_length], by rw [Nat.mul_one, ← byts_length L]; exact List.take_length⟩⟩
theorem byblk_sl {w : World} {g : Nat} {L : List Nat} (h : ByBlk w g L) : Sl w w.heap.size (some ⟨g, 0, none⟩) (byts L) :=
  .inr ⟨g, 0, rfl, Blk.lt h, fun i hi => by
    rw [Nat.zero_add, Blk.cell h i]
    simp [List.getElem?_eq_getElem hi]⟩
theorem byte_info : (Try.prog.info? 5).map (fun i => (i.zero, i.size, i.bytes)) = some (some (.int .u8 0), 1, 1) := by kernel_rfl
theorem byte_sz : (Try.prog.info? 5).map (·.size) = some 1 := by kernel_rfl
/-- n zero bytes, as cells. -/
def zcells (n : Nat) : Array Value := madeCells #[.int .u8 0] n
theorem make_bytes (n : Nat) (hn : n ≤ 281474976710656) (w : World) :
    (Instr.makeSlice 22 (.int .i64 (n : Int)) (.int .i64 (n : Int))).run Try.prog w = .ok (.slice (some ⟨w.heap.size, 0, none⟩) n n) (w.alloc (.cells (zcells n) 5)) :=
  run_make_row' _ _ _ 1 Try.underlying22 byte_info rfl .i64 .i64 n (by omega) (by omega) w
theorem zcells_list (n : Nat) : (zcells n).toList = byts (List.replicate n 0) := by
  unfold zcells byts
  rw [toList_madeCells_one, List.map_replicate]; rfl
theorem byblk_zeros (w : World) (n : Nat) : ByBlk (w.alloc (.cells (zcells n) 5)) w.heap.size (List.replicate n 0) := by
  unfold ByBlk
  rw [← zcells_list, Array.toArray_toList]
  exact Blk.new _ _ _
theorem byblk_below {w w' : World} {g : Nat} {L : List Nat} (h : ByBlk w g L) (hb : Below w.heap.size w w') : ByBlk w' g L := Blk.keep h (hb.block g (Blk.lt h))
theorem by_zeros (w : World) (n : Nat) (hn : n ≤ 1000000) : By (w.alloc (.cells (zcells n) 5)) (some ⟨w.heap.size, 0, none⟩) n (List.replicate n 0) :=
  ⟨byblk_sl (byblk_zeros w n), by intro x hx; rw [List.eq_of_mem_replicate hx]; decide, by rw [List.length_replicate]; exact Nat.le_refl _, by simp, by rw [List.length_replicate]; exact hn⟩
end Go.Proofs.Ytaainefdjbmekaa
namespace Go.Proofs.Ytaainefdjbmekaa
open Go.RowKit
end Go.Proofs.Ytaainefdjbmekaa
namespace Go.Proofs.Ytaainefdjbmekaa
open Go.RowKit
/-- The block that a slice of one's own lies in. -/
def bk (A : Option Addr) : Option Nat := (Value.slice A 0 0).ownBlock
/-- A row has been appended to: only its own block has changed; it may lie in a new one. -/
structure Ap (B : Nat) (w w' : World) (A A' : Option Addr) : Prop where
  chg : Chg (fun b => bk A = some b) w w'
  new : ∀ b, bk A' = some b → bk A = some b ∨ w.heap.size ≤ b
  bel : Below B w w'
section
variable {B n c : Nat} {w w1 w2 : World} {A A1 A2 : Option Addr} {l : List Nat}
theorem Ap.trans (h : Ap B w w1 A A1) (k : Ap B w1 w2 A1 A2) : Ap B w w2 A A2 := by
  have hs := h.chg.size
  refine ⟨⟨k.chg.os.trans h.chg.os, k.chg.tape.trans h.chg.tape, k.chg.output.trans h.chg.output, Nat.le_trans hs k.chg.size, fun b hb hne => ?_⟩, fun b hb => ?_, h.bel.trans k.bel⟩
  · refine (k.chg.block b (by omega) fun hk => ?_).trans (h.chg.block b hb hne)
    rcases h.new b hk with h' | h'
    · exact hne h'
    · omega
  · rcases k.new b hb with h' | h'
    · exact h.new b h'
    · exact .inr (by omega)
theorem Ap.refl (B : Nat) (w : World) (A : Option Addr) : Ap B w w A A := ⟨Chg.refl _ _, fun _ h => .inl h, Below.refl _ _⟩
theorem Ap.alloc (h : Ap B w w1 A A1) (hB : B ≤ w.heap.size) (o : Obj) : Ap B w (w1.alloc o) A A1 := ⟨h.chg.alloc o, h.new, h.bel.alloc (Nat.le_trans hB h.chg.size) o⟩
end
end Go.Proofs.Ytaainefdjbmekaa
namespace Go.Proofs.Ytaainefdjbmekaa
open Go.RowKit
/-- Runs as cells. -/
def rcs : List (Nat × Nat) → List Value
  | [] => []
  | r :: l => .int .i64 (r.1 : Int) :: .int .i64 (r.2 : Int) :: rcs l
theorem rcs_app : ∀ l m : List (Nat × Nat), rcs (l ++ m) = rcs l ++ rcs m
  | [], _ => rfl
  | r :: l, m => by rw [List.cons_append, rcs, rcs, rcs_app l m]; rfl
theorem rcs_at : ∀ {l : List (Nat × Nat)} {k : Nat}, k < l.length → (rcs l)[k * 2]? = some (.int .i64 ((l.getD k (0, 0)).1 : Int)) ∧ (rcs l)[k * 2 + 1]? = some (.int .i64 ((l.getD k (0, 0)).2 : Int))
  | r :: l, 0, _ => ⟨rfl, rfl⟩
  | r :: l, k + 1, h => by
    have := rcs_at (l := l) (k := k) (by simpa using h)
    rw [show (k + 1) * 2 = k * 2 + 1 + 1 by omega, rcs, List.getElem?_cons_succ, List.getElem?_cons_succ, List.getElem?_cons_succ, List.getElem?_cons_succ]
    exact this
theorem run_parts : ∃ i, Try.prog.info? 33 = some i ∧ i.zero = some (.agg #[.int .i64 0, .int .i64 0]) ∧ i.size = 2 ∧ i.bytes = 16 := by
  have h : (Try.prog.info? 33).map (fun i => (i.zero, i.size, i.bytes)) = some (some (.agg #[.int .i64 0, .int .i64 0]), 2, 16) := by kernel_rfl
  obtain ⟨i, hi, hh⟩ := Option.map_eq_some_iff.1 h
  simp only [Prod.mk.injEq] at hh
  exact ⟨i, hi, hh.1, hh.2.1, hh.2.2⟩
/-- A row of runs of one's own. -/
abbrev OwnR (w : World) (B : Nat) (v : Value) (l : List (Nat × Nat)) : Prop := w.ownsRow B 33 2 v l.length (rcs l)
theorem ownR_at {w : World} {B : Nat} {v : Value} {l : List (Nat × Nat)} (h : OwnR w B v l) (hn : 0 < l.length) : ∃ g c, v = .slice (some ⟨g, 0, none⟩) l.length c ∧ B ≤ g ∧ g < w.heap.size ∧ (∀ k, k < l.length → w.cell? ⟨g, k * 2, none⟩ = some (.int .i64 ((l.getD k (0, 0)).1 : Int)) ∧ w.cell? ⟨g, k * 2 + 1, none⟩ = some (.int .i64 ((l.getD k (0, 0)).2 : Int))) ∧ (∀ i, w.frozen? ⟨g, i, none⟩ = false) ∧
    ∀ i u, u.oneCell' = true → (w.setCell ⟨g, i, none⟩ u).ownsRow B 33 2 v l.length ((rcs l).set i u) := by
  have hlt := h.lt
  rcases h.2 with ⟨h', h0⟩ | ⟨g, cap, cur, h', hg, _⟩
  · omega
  · subst h'
    refine ⟨g, cap, rfl, hg, (hlt g rfl).2, fun k hk => ?_, fun i => h.frozenAt i, fun i u _ => (h.stored i u).1⟩
    obtain ⟨e1, e2⟩ := rcs_at hk
    exact ⟨by rw [h.cellAt (k * 2) (by omega), e1], by rw [h.cellAt (k * 2 + 1) (by omega), e2]⟩
theorem ownR_slice {w : World} {B : Nat} {v : Value} {l : List (Nat × Nat)} (h : OwnR w B v l) : ∃ A c, v = .slice A l.length c := own_slice h
theorem listK_few (F : List Bool) : ∀ k, (Rn.listK F k).length ≤ k
  | 0 => Nat.le_refl _
  | k + 1 => by
    have := listK_few F k
    rw [Rn.listK]
    split
    · unfold Rn.push
      cases hl : (Rn.listK F k).getLast? with
      | none => simp
      | some r =>
        simp only
        split
        · rw [List.length_append, List.length_dropLast, List.length_singleton]; omega
        · rw [List.length_append, List.length_singleton]; omega
    · omega
theorem sl_two {w : World} {a b : Value} {t : TypeId} : Sl (w.alloc (.cells #[a, b] t)) (w.heap.size + 1) (some ⟨w.heap.size, 0, none⟩) [a, b] := .inr ⟨w.heap.size, 0, rfl, by omega, fun i hi => by
  rw [Nat.zero_add, cell_fresh rfl]
  have : i < 2 := hi
  have : i = 0 ∨ i = 1 := by omega
  rcases this with rfl | rfl <;> rfl⟩
theorem listK_end (F : List Bool) : ∀ k, ∀ r ∈ Rn.listK F k, 1 ≤ r.2 ∧ r.1 + r.2 ≤ k := Rn.listK_end F
end Go.Proofs.Ytaainefdjbmekaa
namespace Go.Proofs.Ytaainefdjbmekaa
open Go.RowKit
/-- Bounds that keep all sums far from overflow. -/
def UOk (l : List Sh.U) : Prop := l.length ≤ 100000 ∧ ∀ u ∈ l, u.1 ≤ 1000000 ∧ u.2.1 ≤ 1000000 ∧ u.2.2 ≤ 1000000000
theorem UOk.at_ {l : List Sh.U} (h : UOk l) (k : Nat) : (Sh.at_ l k).1 ≤ 1000000 ∧ (Sh.at_ l k).2.1 ≤ 1000000 ∧ (Sh.at_ l k).2.2 ≤ 1000000000 := by
  unfold Sh.at_
  rcases Nat.lt_or_ge k l.length with hk | hk
  · rw [List.getD_eq_getElem?_getD, List.getElem?_eq_getElem hk]
    exact h.2 _ (List.getElem_mem hk)
  · rw [List.getD_eq_getElem?_getD, List.getElem?_eq_none hk]
    exact ⟨by decide, by decide, by decide⟩
end Go.Proofs.Ytaainefdjbmekaa
namespace Go.Proofs.Ytaainefdjbmekaa
open Go.RowKit
section
variable {P : Program}
/-- The address behind k elements. -/
def cutW (A : Option Addr) (cap k size : Nat) : Option Addr := if cap = k then A else A.map (·.add (k * size))
theorem run_fromW {t e : TypeId} {i : TypeInfo} {size : Nat} (ht : P.underlying t = some (.slice e)) (hi : P.info? e = some i) (hs : i.size = size) (A : Option Addr) (n cap k : Nat) (hk : k ≤ n) (w : World) :
    (Instr.slice t (.slice A n cap) (some (.int .i64 (k : Int))) none none).run P w = .ok (.slice (cutW A cap k size) (n - k) (cap - k)) w := by
  simp [Instr.slice, Instr.sliceBounds, Instr.sliceBound, run_underlying ht, sizeOf, typeInfo, hi, asIntOf, hs, cutW]
  intro h; omega
theorem run_midW {t e : TypeId} {i : TypeInfo} {size : Nat} (ht : P.underlying t = some (.slice e)) (hi : P.info? e = some i) (hs : i.size = size) (A : Option Addr) (n cap k m : Nat) (hk : k ≤ m) (hm : m ≤ cap) (w : World) :
    (Instr.slice t (.slice A n cap) (some (.int .i64 (k : Int))) (some (.int .i64 (m : Int))) none).run P w = .ok (.slice (cutW A cap k size) (m - k) (cap - k)) w := by
  simp [Instr.slice, Instr.sliceBounds, Instr.sliceBound, run_underlying ht, sizeOf, typeInfo, hi, asIntOf, hs, cutW]
  rw [if_pos hm, if_pos hk]
theorem cutW_at (g cap k size : Nat) (h : cap ≠ k) : cutW (some ⟨g, 0, none⟩) cap k size = some ⟨g, k * size, none⟩ := by
  unfold cutW
  rw [if_neg h]
  simp [Addr.add_lit]
theorem splice_nil {α : Type} (L : List α) (k : Nat) : splice L k [] = L := by simp [splice]
/-- copy onto a row of a block of cells, elements of any size, from any place. -/
theorem run_copyW {w : World} {dT sT e : TypeId} {i : TypeInfo} {size : Nat} (ht : P.underlying dT = some (.slice e)) (hi : P.info? e = some i) (hs : i.size = size)
    {g off : Nat} {cur : List Value} {t : TypeId} (hg : w.heap[g]? = some (.cells cur.toArray t (0, 0))) {dp sp : Option Addr} {dLen dCap sLen sCap m : Nat} (hm : m = Nat.min sLen dLen) {cs : List Value} (hc : cs.length = m * size)
    (hpos : 0 < cs.length → dp = some ⟨g, off, none⟩) {B : Nat} (hsrc : Sl w B sp cs) (hfit : off + cs.length ≤ cur.length) (h1 : ∀ v ∈ cs, v.oneCell' = true) (ty : TypeId) :
    (Builtin.copy_ #[dT, sT] ty #[.slice dp dLen dCap, .slice sp sLen sCap]).run P w = .ok (goInt m) (w.setRow g (splice cur off cs).toArray) := by
  by_cases h0 : cs = []
  · subst h0
    rw [splice_nil, setRow_self w g cur.toArray t (0, 0) hg]
    have hz : Nat.min sLen dLen * size = 0 := by rw [← hm]; exact hc.symm
    have hl : ∀ (x : Addr), (loadCells x 0).run P w = .ok #[] w := fun x => by simpa using run_loadCells_list (P := P) w x [] (by simp)
    cases dp <;> cases sp <;> simp [Builtin.copy_, run_underlying ht, Builtin.lenOf, Builtin.firstCells, sizeOf, typeInfo, hi, hs, hz, storeCells, hl, hm]
  · have hp : 0 < cs.length := List.length_pos_iff.2 h0
    obtain rfl := hpos hp
    rcases hsrc with h | ⟨b, o, rfl, _, hcell⟩
    · exact absurd h h0
    have hl := run_loadCells_list (P := P) w ⟨b, o, none⟩ cs fun j v hj => by
      obtain ⟨hlt, he⟩ := List.getElem?_eq_some_iff.1 hj
      rw [Addr.add_lit, hcell j hlt, he]
    have hst := run_storeCells_at P g off t cs 0 cur.toArray w hg (by simpa using hfit) h1
    have hz : Nat.min sLen dLen * size = cs.length := by rw [← hm]; exact hc.symm
    simp only [Nat.add_zero] at hst
    simp [Builtin.copy_, run_underlying ht, Builtin.lenOf, Builtin.firstCells, sizeOf, typeInfo, hi, hs, hz, hl, hst, hm, splice]
theorem zeros_len (z : Array Value) (n : Nat) : (Builtin.zeroCells z n).toList.length = n * z.size := by rw [Array.length_toList, size_zeroCells]
/-- clear of the end of a row. -/
theorem run_clearW {w : World} {t e : TypeId} {i : TypeInfo} {size : Nat} {z : Value} (ht : P.underlying t = some (.slice e)) (hi : P.info? e = some i) (hz : i.zero = some z) (hzs : z.cells.size = size)
    (h1 : ∀ v ∈ z.cells.toList, v.oneCell' = true) {g off : Nat} {cur : List Value} {tc : TypeId} (hg : w.heap[g]? = some (.cells cur.toArray tc (0, 0))) {dp : Option Addr} {n c : Nat} (hpos : 0 < n → dp = some ⟨g, off, none⟩)
    (hfit : off + n * size ≤ cur.length) (ty : TypeId) :
    (Builtin.clear_ #[t] ty #[.slice dp n c]).run P w = .ok (.tuple #[]) (w.setRow g (splice cur off (Builtin.zeroCells z.cells n).toList).toArray) := by
  by_cases h0 : n = 0
  · subst h0
    have : (Builtin.zeroCells z.cells 0).toList = [] := List.eq_nil_of_length_eq_zero (by rw [zeros_len]; omega)
    rw [this, splice_nil, setRow_self w g cur.toArray tc (0, 0) hg]
    cases dp <;> simp [Builtin.clear_, run_underlying ht]
  · obtain rfl := hpos (by omega)
    have hl := zeros_len z.cells n
    rw [hzs] at hl
    have hmem : ∀ v ∈ (Builtin.zeroCells z.cells n).toList, v.oneCell' = true := by
      intro v hv
      simp only [Builtin.zeroCells, Array.toList_map, List.mem_map] at hv
      obtain ⟨k, hk, rfl⟩ := hv
      have hpos : 0 < z.cells.size := by
        rcases Nat.eq_zero_or_pos z.cells.size with h | h
        · rw [h, Nat.mul_zero] at hk; simp at hk
        · exact h
      have hlt : k % z.cells.size < z.cells.size := Nat.mod_lt _ hpos
      rw [getElem!_pos z.cells _ hlt]
      exact h1 _ (by rw [Array.mem_toList_iff]; exact Array.getElem_mem hlt)
    have hst := run_storeCells_at P g off tc (Builtin.zeroCells z.cells n).toList 0 cur.toArray w hg (by rw [hl]; simpa using hfit) hmem
    simp only [Nat.add_zero] at hst
    obtain ⟨m, rfl⟩ : ∃ m, n = m + 1 := ⟨n - 1, by omega⟩
    simp [Builtin.clear_, run_underlying ht, zeroValue, typeInfo, hi, hz, hst, splice]
/-- append that finds room. -/
theorem run_appendW {w : World} {t e : TypeId} {i : TypeInfo} {size : Nat} (ht : P.underlying t = some (.slice e)) (hi : P.info? e = some i) (hs : i.size = size)
    {g n c : Nat} {cur : List Value} (hg : w.heap[g]? = some (.cells cur.toArray e (0, 0))) {A : Option Addr} {m vc B : Nat} {news : List Value} (hl : news.length = m * size) (hA : A = none → m = 0) (hsrc : Sl w B A news) (h1 : ∀ u ∈ news, u.oneCell' = true)
    (hroom : n + m ≤ c) (hfit : c * size ≤ cur.length) (ty : TypeId) :
    (Builtin.append_ #[t, t] ty #[.slice (some ⟨g, 0, none⟩) n c, .slice A m vc]).run P w = .ok (.slice (some ⟨g, 0, none⟩) (n + m) c) (w.setRow g (splice cur (n * size) news).toArray) := by
  subst hs
  have hle : n * i.size + news.length ≤ cur.length := by rw [hl, ← Nat.add_mul]; exact Nat.le_trans (Nat.mul_le_mul_right _ hroom) hfit
  cases A with
  | none =>
    have hm := hA rfl
    subst hm
    have : news = [] := List.eq_nil_of_length_eq_zero (by omega)
    subst this
    rw [splice_nil, setRow_self w g cur.toArray e (0, 0) hg]
    simp [Builtin.append_, run_underlying ht, sizeOf, typeInfo, hi, Builtin.lenOf, Builtin.firstCells, show n ≤ c by omega, storeCells]
  | some ad =>
    have hcells : ∀ j u, news[j]? = some u → w.cell? (ad.add j) = some u := by
      intro j u hu
      obtain ⟨hj, he⟩ := List.getElem?_eq_some_iff.1 hu
      obtain ⟨b, o, h', _, hcell⟩ := hsrc.at_ hj
      injection h' with h'
      subst h'
      rw [Addr.add_lit, hcell j hj, he]
    have hr := run_append_room (P := P) w t ty e i ht hi g n c cur.toArray hg ad m vc news hl hcells h1 hroom (by simpa using hle)
    rw [hr]
    simp [splice]
theorem splice_len {α : Type} (L : List α) (k : Nat) (cs : List α) (h : k + cs.length ≤ L.length) : (splice L k cs).length = L.length := length_splice L k cs h
/-- Two pieces laid one behind the other, in either order: what the beginning is then. -/
theorem splice_up {α : Type} (L X Y : List α) (p q : Nat) (hq : X.length = q) (h : p + q + Y.length ≤ L.length) : (splice (splice L p X) (p + q) Y).take (p + q + Y.length) = L.take p ++ X ++ Y := by
  subst hq
  have e1 : (splice L p X).take (p + X.length) = L.take p ++ X := by
    unfold splice
    rw [← List.append_assoc, List.take_append_of_le_length (by simp; omega), List.take_of_length_le (by simp; omega)]
  unfold splice at e1 ⊢
  rw [e1, ← List.append_assoc, List.take_append_of_le_length (by simp; omega), List.take_of_length_le (by simp; omega)]
theorem splice_down {α : Type} (L X Y : List α) (p q : Nat) (hq : X.length = q) (h : p + q + Y.length ≤ L.length) : (splice (splice L (p + q) Y) p X).take (p + q + Y.length) = L.take p ++ X ++ Y := by
  subst hq
  have e1 : (splice L (p + X.length) Y).take p = L.take p := by
    unfold splice
    rw [List.take_append_of_le_length (by simp; omega), List.take_take, Nat.min_eq_left (by omega)]
  have e2 : ((splice L (p + X.length) Y).drop (p + X.length)).take Y.length = Y := by
    unfold splice
    rw [List.drop_append_of_le_length (by simp; omega), List.drop_of_length_le (by simp; omega), List.nil_append, List.take_left]
  have e3 : (splice (splice L (p + X.length) Y) p X) = L.take p ++ X ++ (splice L (p + X.length) Y).drop (p + X.length) := by
    show (splice L (p + X.length) Y).take p ++ (X ++ (splice L (p + X.length) Y).drop (p + X.length)) = _
    rw [e1, List.append_assoc]
  rw [e3, List.take_append, show (L.take p ++ X).length = p + X.length by simp; omega, show p + X.length + Y.length - (p + X.length) = Y.length by omega, e2, List.take_of_length_le (by simp; omega)]
theorem splice_take {α : Type} (L X : List α) (p k : Nat) (h : k ≤ p) (hp : p ≤ L.length) : (splice L p X).take k = L.take k := by
  unfold splice
  rw [List.take_append_of_le_length (by simp; omega), List.take_take, Nat.min_eq_left h]
theorem splice_end {α : Type} (L X : List α) (p : Nat) (hp : p ≤ L.length) : (splice L p X).take (p + X.length) = L.take p ++ X := by
  unfold splice
  rw [← List.append_assoc, List.take_append_of_le_length (by simp; omega), List.take_of_length_le (by simp; omega)]
/-- append, its run known. -/
theorem wp_app_run (w : World) {o : Oper} {a : Act} {K : Act → World → Prop} {Q : Exit → Act → World → Prop} (d s : Operand) (t t' : TypeId)
    (ho : o.op = .call { callee := .builtin .append, args := #[d, s], argTypes := #[t, t'] }) {v u : Value} (hd : a.eval d = v) (hs : a.eval s = u) {v' : Value} {w' : World}
    (hr : (Builtin.append_ #[t, t'] o.type #[v, u]).run P w = .ok v' w') (h : K (a.put o.dst v') w') : o.wp P a w K Q := by
  unfold Oper.wp execOp
  simp only [ho, resolve, invoke, builtin, Sem.run_bind, Sem.run_pure, Result.andThen_ok, List.map_toArray, List.map_cons, List.map_nil, hd, hs, hr]
  exact h
theorem wpList_app_run (w : World) {ops : Array Oper} {rest : List Oper} {o : Oper} {a : Act} {Q : Exit → Act → World → Prop} (hgd : o.guard = none) (d s : Operand) (t t' : TypeId)
    (ho : o.op = .call { callee := .builtin .append, args := #[d, s], argTypes := #[t, t'] }) {v u : Value} (hd : a.eval d = v) (hs : a.eval s = u) {v' : Value} {w' : World}
    (hr : (Builtin.append_ #[t, t'] o.type #[v, u]).run P w = .ok v' w') (h : wpList P ops Q rest (a.put o.dst v') w') : wpList P ops Q (o :: rest) a w :=
  wpList_plain hgd fun _ hK => wp_app_run w d s t t' ho hd hs hr (hK _ _ h)
end
end Go.Proofs.Ytaainefdjbmekaa
