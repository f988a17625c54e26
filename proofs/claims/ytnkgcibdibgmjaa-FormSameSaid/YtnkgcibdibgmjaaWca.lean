/- The program's canonical code: its bytes of each length, its first words, its sum. The program's canonical code: the walk. -/
import Derived.Test.YtnkgcibdibgmjaaWpl
import Derived.Test.YtnkgcibdibgmjaaBy
import Derived.Test.YtnkgcibdibgmjaaDkr
import Derived.Deep.RegionHeldLaw
import Derived.BigRegion
import Derived.BigQuiet
namespace Go.Proofs.Ytnkgcibdibgmjaa
open Go.RowKit

theorem index12s {k : Nat} (hk : k < 12) (g : Nat) (w : World) : (Instr.indexAt 77 (.pointer (some ⟨g, 0, none⟩)) (.int .i64 (k : Int))).run Try.prog w = .ok (.pointer (some ⟨g, k, none⟩)) w := by
  have h1 : 0 ≤ (k : Int) ∧ (k : Int) < 12 := by omega
  have := Try.underlying77
  go_simp
theorem index12i {k : Nat} (hk : k < 12) (g : Nat) (w : World) : (Instr.indexAt 78 (.pointer (some ⟨g, 12, none⟩)) (.int .i64 (k : Int))).run Try.prog w = .ok (.pointer (some ⟨g, 12 + k, none⟩)) w := by
  have h1 : 0 ≤ (k : Int) ∧ (k : Int) < 12 := by omega
  have := Try.underlying78
  go_simp
theorem ownB_ne {w : World} {B n c : Nat} {A : Option Addr} {l : List Nat} {g : Nat} {t : TypeId} {cs : Array Value} (h : OwnB w B A n c l) (hb : Blk w g t cs) (ht : t ≠ 5) : bk A ≠ some g := by
  intro hk
  rcases h.2 with ⟨h0, -⟩ | ⟨g', cap, cur, hv, -, hg, -⟩
  · injection h0 with h0; subst h0; cases hk
  · injection hv with hv
    subst hv
    have : g' = g := by simpa [bk, Value.ownBlock] using hk
    subst this
    unfold Blk at hb
    rw [hb] at hg
    injection hg with hg
    injection hg with _ hg _
    exact ht hg

/-- Block G is a code: its cells C, the bytes of length n in a row f n of its own. -/
structure Cw (w : World) (B G : Nat) (C : Array Value) (f : Nat → List Nat) : Prop where
  gB : B ≤ G
  size : C.size = 25
  blk : Blk w G 80 C
  row : ∀ n, n < 12 → ∃ A c, C[n]? = some (.slice A (f n).length c) ∧ OwnB w B A (f n).length c (f n)
  far : ∀ n m, n < 12 → m < 12 → n ≠ m → ∀ A A' k k' c c', C[n]? = some (.slice A k c) → C[m]? = some (.slice A' k' c') → ∀ b, bk A = some b → bk A' = some b → False
section
variable {w w' : World} {B G : Nat} {C : Array Value} {f : Nat → List Nat}
theorem Cw.congr (h : Cw w B G C f) {f' : Nat → List Nat} (e : ∀ n, n < 12 → f n = f' n) : Cw w B G C f' :=
  ⟨h.gB, h.size, h.blk, fun n hn => by rw [← e n hn]; exact h.row n hn, h.far⟩
/-- Only blocks that are no part of the code have changed. -/
theorem Cw.keep (h : Cw w B G C f) (hB : ∀ b, B ≤ b → b < w.heap.size → w'.heap[b]? = w.heap[b]?) : Cw w' B G C f := by
  refine ⟨h.gB, h.size, h.blk.keep (hB G h.gB h.blk.lt), fun n hn => ?_, h.far⟩
  obtain ⟨A, c, h1, h2⟩ := h.row n hn
  exact ⟨A, c, h1, own_keep h2 fun b hb hlt => hB b (h2.lt b hb).1 hlt⟩
/-- A cell that is no row. -/
theorem Cw.set_ (h : Cw w B G C f) {j : Nat} (hj : 12 ≤ j) (v : Value) : Cw (w.setCell ⟨G, j, none⟩ v) B G (C.setIfInBounds j v) f := by
  have hc : ∀ n, n < 12 → (C.setIfInBounds j v)[n]? = C[n]? := fun n hn => Array.getElem?_setIfInBounds_ne (by omega)
  refine ⟨h.gB, by rw [Array.size_setIfInBounds]; exact h.size, h.blk.set_ j v, fun n hn => ?_, fun n m hn hm hne => by rw [hc n hn, hc m hm]; exact h.far n m hn hm hne⟩
  obtain ⟨A, c, h1, h2⟩ := h.row n hn
  refine ⟨A, c, by rw [hc n hn]; exact h1, own_keep h2 fun b hb hlt => Below.heap_setCell w _ v b ?_⟩
  have := ownB_ne h2 h.blk (by decide)
  intro e
  rw [bk_own] at hb
  exact this (by rw [hb, e])
theorem Cw.app (h : Cw w B G C f) {n x : Nat} (hn : n < 12) {A : Option Addr} {q c : Nat} (hC : C[n]? = some (.slice A q c)) (hq : (f n).length = q) (o : Obj) {v' : Value} {w3 : World} (ho : w3.ownsRow B 5 1 v' (q + 1) (byts (f n) ++ byts [x]))
    (hg0 : (w.alloc o).drew.grownBy w3 (Value.slice A q c).ownBlock) (hb : v'.ownBlock = (Value.slice A q c).ownBlock ∨ v'.ownBlock = some (w.alloc o).drew.heap.size) :
    ∃ A' c', v' = .slice A' (q + 1) c' ∧ w3.frozen? ⟨G, n, none⟩ = false ∧ w3.cell? ⟨G, n, none⟩ = some (.slice A q c) ∧ Hid (Cw (w3.setCell ⟨G, n, none⟩ (.slice A' (q + 1) c')) B G (C.setIfInBounds n (.slice A' (q + 1) c')) (fun m => if m = n then f n ++ [x] else f m) ∧ Below B w w3) := by
  have hg : (w.alloc o).grownBy w3 (Value.slice A q c).ownBlock := ⟨hg0.os, hg0.tape, hg0.output, hg0.size, hg0.block⟩
  obtain ⟨A', c', rfl⟩ := own_slice ho
  have hBw : B ≤ w.heap.size := Nat.le_trans h.gB (Nat.le_of_lt h.blk.lt)
  obtain ⟨A0, c0, e0, own0⟩ := h.row n hn
  rw [hC] at e0
  injection e0 with e0
  injection e0 with ea eb ec
  subst ea; subst ec
  rw [hq] at own0
  have hne : bk A ≠ some G := ownB_ne own0 h.blk (by decide)
  rw [bk_own] at hg
  rw [bk_own, bk_own] at hb
  have b3 : Blk w3 G _ _ := (h.blk.alloc o).grown hg hne
  have hGl := h.blk.lt
  have hs1 : (w.alloc o).drew.heap.size = w.heap.size + 1 := World.size_alloc _ _
  have hs3 := hg.size
  have hw1 : (w.alloc o).heap.size = w.heap.size + 1 := World.size_alloc _ _
  have hneG : bk A' ≠ some G := by
    rcases hb with e | e <;> rw [e]
    · exact hne
    · rw [hs1]; intro hh; injection hh with hh; omega
  refine ⟨A', c', rfl, b3.frozen n, by rw [b3.cell, hC], Lib.hid ⟨⟨h.gB, by rw [Array.size_setIfInBounds]; exact h.size, b3.set_ n _, fun m hm => ?_, fun a b ha hb' hab A1 A2 k1 k2 c1 c2 h1 h2 bb hb1 hb2 => ?_⟩, ((Below.refl B w).alloc hBw o).grown hg (by rw [hw1]; omega) fun k hk => (own0.lt k (by rw [bk_own]; exact hk)).1⟩⟩
  · by_cases hmn : m = n
    · subst hmn
      rw [if_pos rfl, List.length_append, hq]
      refine ⟨A', c', by rw [Array.getElem?_setIfInBounds_self_of_lt (by rw [h.size]; omega)]; rfl, own_keep ?_ fun b hbk hlt => Below.heap_setCell w3 _ _ b ?_⟩
      · rw [byts_join] at ho; exact ho
      · intro e; rw [bk_own] at hbk; exact hneG (by rw [hbk, e])
    · rw [if_neg hmn]
      obtain ⟨Am, cm, em, om⟩ := h.row m hm
      refine ⟨Am, cm, by rw [Array.getElem?_setIfInBounds_ne (Ne.symm hmn)]; exact em, own_keep om fun b hbk hlt => ?_⟩
      rw [bk_own] at hbk
      have hbG : b ≠ G := by
        intro e
        exact ownB_ne om h.blk (by decide) (by rw [hbk, e])
      rw [Below.heap_setCell w3 _ _ b hbG, hg.block b (by rw [hw1]; omega) (by
        intro e
        exact h.far n m hn hm (Ne.symm hmn) A Am _ _ _ _ hC em b e.symm hbk), Below.heap_alloc w o b hlt]
  · have old : ∀ a k A1 c1, a ≠ n → a < 12 → (C.setIfInBounds n (.slice A' (q + 1) c'))[a]? = some (.slice A1 k c1) → C[a]? = some (.slice A1 k c1) := fun a k A1 c1 hne' _ e => by rwa [Array.getElem?_setIfInBounds_ne (Ne.symm hne')] at e
    have new : ∀ k A1 c1, (C.setIfInBounds n (.slice A' (q + 1) c'))[n]? = some (.slice A1 k c1) → A1 = A' := fun k A1 c1 e => by
      rw [Array.getElem?_setIfInBounds_self_of_lt (by rw [h.size]; omega)] at e
      injection e with e; injection e with e _ _; exact e.symm
    have young : ∀ a A1 k c1, a ≠ n → a < 12 → C[a]? = some (.slice A1 k c1) → bk A1 = some bb → bk A' = some bb → False := fun a A1 k c1 hne' ha' e e1 e2 => by
      rcases hb with e3 | e3
      · rw [e3] at e2
        exact h.far a n ha' hn hne' A1 A _ _ _ _ e hC bb e1 e2
      · rw [e3, hs1] at e2
        injection e2 with e2
        obtain ⟨A4, c4, e4, o4⟩ := h.row a ha'
        rw [e] at e4
        injection e4 with e4; injection e4 with e4 _ _
        subst e4
        have := (o4.lt bb (by rw [bk_own]; exact e1)).2
        omega
    by_cases ha' : a = n
    · subst ha'
      have := new _ _ _ h1
      subst this
      exact young b A2 _ _ (Ne.symm hab) hb' (old b _ _ _ (Ne.symm hab) hb' h2) hb2 hb1
    · by_cases hb'' : b = n
      · subst hb''
        have := new _ _ _ h2
        subst this
        exact young a A1 _ _ ha' ha (old a _ _ _ ha' ha h1) hb1 hb2
      · exact h.far a b ha hb' hab A1 A2 _ _ _ _ (old a _ _ _ ha' ha h1) (old b _ _ _ hb'' hb' h2) bb hb1 hb2
end
end Go.Proofs.Ytnkgcibdibgmjaa

namespace Go.Proofs.Ytnkgcibdibgmjaa
open Go.RowKit

/-- A made code. -/
structure Code (w : World) (B G : Nat) (C : Array Value) (l : List Int) : Prop where
  cw : Cw w B G C fun n => Wd.cv l n 256
  first : ∀ n, n < 12 → C[12 + n]? = some (.int .i64 ((Wd.fv l n : Nat) : Int))
  sum : C[24]? = some (.int .i64 ((ksum l : Nat) : Int))
/-- The first j first words. -/
def fvK (l : List Int) (j n : Nat) : Nat := if n < j then Wd.fv l n else 0
theorem fvK_next (l : List Int) (j : Nat) {n : Nat} (h : n ≠ j) : fvK l (j + 1) n = fvK l j n := by
  unfold fvK
  by_cases h1 : n < j
  · rw [if_pos h1, if_pos (by omega)]
  · rw [if_neg h1, if_neg (by omega)]
theorem fv_le {l : List Int} {n : Nat} (h : n < 12) : Wd.fv l n ≤ 524288 := by
  unfold Wd.fv
  split
  · omega
  · have := Wd.first_le l (n - 1)
    have h2 : 2 ^ (n - 1) ≤ 2 ^ 10 := Nat.pow_le_pow_right (by decide) (by omega)
    omega
theorem cv_few (l : List Int) (n : Nat) {k : Nat} (h : k ≤ l.length) : (Wd.cv l n k).length ≤ k := by
  rw [Wd.cv_len h]
  split
  · omega
  · exact Wd.cnt_le _ _ _
section
variable {w : World} {B G : Nat} {C : Array Value} {f : Nat → List Nat}
/-- The append, as one step of the region. -/
theorem cw_step {n x q c : Nat} {A : Option Addr} (h : Cw w B G C f) (hn : n < 12) (hC : C[n]? = some (.slice A q c)) (hq : (f n).length = q) (hqm : q ≤ 256) {W : World} (hW : W = (w.alloc (.cells #[.int .u8 (x : Int)] 5)).drew) {ops : Array Oper} {o : Oper} {a : Act} {K : Act → World → Prop} {Q : Exit → Act → World → Prop} {E : Prop}
    (hgd : o.guard = none) (ho : o.op = .call { callee := .builtin .append, args := #[.tmp 31, .tmp 34], argTypes := #[22, 22] }) (hv : a.eval (.tmp 31) = .slice A q c) (hx : a.eval (.tmp 34) = .slice (some ⟨w.heap.size, 0, none⟩) 1 1)
    (hk : ∀ A5 c5 w5, w5.frozen? ⟨G, n, none⟩ = false → w5.cell? ⟨G, n, none⟩ = some (.slice A q c) → Hid (Cw (w5.setCell ⟨G, n, none⟩ (.slice A5 (q + 1) c5)) B G (C.setIfInBounds n (.slice A5 (q + 1) c5)) (fun m => if m = n then f n ++ [x] else f m) ∧ Below B w w5) → K (a.put o.dst (.slice A5 (q + 1) c5)) w5) :
    if Region.wanted o (yielded ops a.tmps) = true then Oper.wp Try.prog o a W K Q else E := by
  subst hW
  obtain ⟨i1, hi1, hz1, hs1, hb1⟩ := byte_parts (P := Try.prog) (e := 5) (by kernel_rfl)
  obtain ⟨A0, c0, e0, own0⟩ := h.row n hn
  rw [hC] at e0
  injection e0 with e0
  injection e0 with ea eb ec
  subst ea; subst ec
  rw [hq] at own0
  have hGl := h.blk.lt
  have hBG := h.gB
  refine step_append_at (w := _) (base := B) (size := 1) (v := .slice A q c) (m := 1) (news := [.int .u8 (x : Int)]) hgd (.tmp 31) (.tmp 34) _ ho Try.underlying22 hi1 hz1 hs1 hb1 rfl (by decide) hv (ownB_alloc own0 _).drew hx rfl (fun j u hu => (show (w.alloc (.cells #[.int .u8 (x : Int)] 5)).cell? ⟨w.heap.size, j, none⟩ = some u by rw [cell_fresh rfl]; simpa using hu)) (by simp [Value.oneCell']) (by unfold maxLen; omega) (by omega) (by show B ≤ (w.alloc _).heap.size; rw [World.size_alloc]; omega) ?_
  intro v5 w5 hown5 hgr5 hbl5
  obtain ⟨A5, c5, rfl, f5, c5', W5⟩ := h.app (x := x) hn hC hq (.cells #[.int .u8 (x : Int)] 5) hown5 hgr5 hbl5
  exact hk A5 c5 w5 f5 c5' W5
end
/-- The cells of an empty code. -/
abbrev noCode : Array Value := #[.slice none 0 0, .slice none 0 0, .slice none 0 0, .slice none 0 0, .slice none 0 0, .slice none 0 0, .slice none 0 0, .slice none 0 0, .slice none 0 0, .slice none 0 0, .slice none 0 0, .slice none 0 0, .int .i64 0, .int .i64 0, .int .i64 0, .int .i64 0, .int .i64 0, .int .i64 0, .int .i64 0, .int .i64 0, .int .i64 0, .int .i64 0, .int .i64 0, .int .i64 0, .int .i64 0]
theorem noCode_row : ∀ n, n < 12 → noCode[n]? = some (.slice none 0 0) := by
  intro n hn
  have : n = 0 ∨ n = 1 ∨ n = 2 ∨ n = 3 ∨ n = 4 ∨ n = 5 ∨ n = 6 ∨ n = 7 ∨ n = 8 ∨ n = 9 ∨ n = 10 ∨ n = 11 := by omega
  rcases this with rfl | rfl | rfl | rfl | rfl | rfl | rfl | rfl | rfl | rfl | rfl | rfl <;> rfl
theorem noCode_first : ∀ n, n < 12 → noCode[12 + n]? = some (.int .i64 0) := by
  intro n hn
  have : n = 0 ∨ n = 1 ∨ n = 2 ∨ n = 3 ∨ n = 4 ∨ n = 5 ∨ n = 6 ∨ n = 7 ∨ n = 8 ∨ n = 9 ∨ n = 10 ∨ n = 11 := by omega
  rcases this with rfl | rfl | rfl | rfl | rfl | rfl | rfl | rfl | rfl | rfl | rfl | rfl <;> rfl
theorem noCode_cw {w : World} {B G : Nat} (hB : B ≤ G) (hb : Blk w G 80 noCode) (l : List Int) : Cw w B G noCode fun n => Wd.cv l n 0 := by
  have e : ∀ n, Wd.cv l n 0 = [] := fun n => by unfold Wd.cv; split <;> rfl
  refine ⟨hB, rfl, hb, fun n hn => ⟨none, 0, by rw [noCode_row n hn, e]; rfl, by rw [e]; exact World.ownsRow_nil _ _ _ _⟩, fun n m hn hm _ A A' k k' c c' h1 h2 b h3 _ => ?_⟩
  rw [noCode_row n hn] at h1
  injection h1 with h1; injection h1 with h1 _ _
  subst h1; cases h3

/-- Between two bytes. -/
structure Can (w : World) (B G k : Nat) (W0 : World) (C : Array Value) (l : List Int) : Prop where
  cw : Cw w B G C fun n => Wd.cv l n k
  first : ∀ n, n < 12 → C[12 + n]? = some (.int .i64 0)
  sum : C[24]? = some (.int .i64 ((ksum l : Nat) : Int))
  bel : Below W0.heap.size W0 w

set_option maxRecDepth 8000 in
set_option maxHeartbeats 8000000 in
theorem canon_any (w : World) (l : List Int) (hl : l.length = 256) (hr : ∀ x ∈ l, 0 ≤ x ∧ x ≤ 11) :
    Calls Try.prog 26 #[.agg (ints l)] w fun e w' => ∃ G C, e = .returned (.pointer (some ⟨G, 0, none⟩)) ∧ Code w' w.heap.size G C l ∧ Below w.heap.size w w' := by
  obtain ⟨t, N, ht, hN, hagg, hix, hund, hsz, -⟩ := t256
  obtain ⟨C0, hC0⟩ : ∃ C, C = ints l := ⟨_, rfl⟩
  rw [← hC0]
  have Iv := Lib.hid (fun (k : Nat) (hk : k < 256) (w : World) => indexV hC0 hl hk w)
  have Kr := Lib.hid (fun W => kraft_is W l hl)
  rw [← hC0, kraft_ok hr] at Kr
  have E1 : ∀ a, Op.box 50 a = Op.box t a := by rw [ht]; exact fun _ => rfl
  have E2 : ∀ a, Op.load 50 a = Op.load t a := by rw [ht]; exact fun _ => rfl
  have E3 : ∀ a b, Op.index 50 a b = Op.index t a b := by rw [ht]; exact fun _ _ => rfl
  rw [← ht] at Iv
  obtain ⟨W2, hW2⟩ : ∃ W, W = (w.alloc (.cells C0 t)).alloc (.cells noCode 80) := ⟨_, rfl⟩
  have hs2 : W2.heap.size = w.heap.size + 2 := by rw [hW2]; simp
  have b0 : Blk W2 w.heap.size t C0 := by rw [hW2]; exact (Blk.new _ _ _).alloc _
  obtain ⟨G, hG⟩ : ∃ G, w.heap.size + 1 = G := ⟨_, rfl⟩
  have b1 : Blk W2 G 80 noCode := by
    rw [hW2, ← hG, show w.heap.size + 1 = (w.alloc (.cells C0 t)).heap.size by simp]; exact Blk.new _ _ _
  have Ld := Lib.hid (fun (X : World) (hb : X.heap[w.heap.size]? = W2.heap[w.heap.size]?) => (load_blk (N := N) (by rw [hC0, ints_size, hl, hN]) (b0.keep hb) : (loadCellsFrom ⟨w.heap.size, 0, none⟩ 0 N #[]).run Try.prog X = .ok C0 X))
  have ld2 := Ld.out W2 rfl
  have B1 := Lib.hid b1
  have HW2 := Lib.hid (show Below w.heap.size w W2 by rw [hW2]; exact ((Below.refl _ _).alloc (Nat.le_refl _) _).alloc (by simp) _)
  have e2 : (w.alloc (.cells C0 t)).alloc (.cells noCode 80) = W2 := hW2.symm
  unfold noCode at e2
  have hks : ksum l ≤ 524288 := by have := ksum_le l; omega
  have Hl := Lib.hid hl
  have Hr := Lib.hid hr
  clear ht hix hC0 hN hW2 b0 b1 hl hr
  go_enter Try.func26, Try.ntmps26
  simp only [E1, E2, E3]
  clear E1 E2 E3
  go_wp2_with fail
  refine (Kr.out _).mono ?_
  rintro e w3 ⟨rfl, hb3⟩
  have c24 : w3.cell? ⟨G, 24, none⟩ = some (.int .i64 0) := (B1.out.keep (hb3.block _ B1.out.lt)).cell 24
  have f24 := (B1.out.keep (hb3.block _ B1.out.lt)).frozen 24
  have ld3 := Ld.out (w3.setCell ⟨G, 24, none⟩ (.int .i64 ((ksum l : Nat) : Int))) (by
    rw [Below.heap_setCell w3 _ _ _ (by show w.heap.size ≠ G; omega)]
    exact hb3.block _ (by omega))
  have hb3' : Below w.heap.size w (w3.setCell ⟨G, 24, none⟩ (.int .i64 ((ksum l : Nat) : Int))) := (HW2.out.trans (hb3.mono HW2.out.size)).setCell (p := ⟨G, 24, none⟩) (by show w.heap.size ≤ G; omega) _
  have C1 := Lib.hid (show Can (w3.setCell ⟨G, 24, none⟩ (.int .i64 ((ksum l : Nat) : Int))) w.heap.size G 0 w (noCode.setIfInBounds 24 (.int .i64 ((ksum l : Nat) : Int))) l from
    ⟨(noCode_cw (by omega) (B1.out.keep (hb3.block _ B1.out.lt)) l).set_ (by decide) _, fun n hn => by rw [Array.getElem?_setIfInBounds_ne (by omega)]; exact noCode_first n hn, by rw [Array.getElem?_setIfInBounds_self_of_lt (by decide)], hb3'⟩)
  clear e2 ld2 B1 HW2 hb3 hb3' Kr
  generalize noCode.setIfInBounds 24 (.int .i64 ((ksum l : Nat) : Int)) = C at *
  go_wp2_with fail
  generalize w3.setCell ⟨G, 24, none⟩ (.int .i64 ((ksum l : Nat) : Int)) = w4 at *
  clear ld3 c24 f24 Ld
  go_loopw [18] (fun i wr => ∃ (k : Nat) (C : Array Value), k ≤ 256 ∧ i = .int .i64 k ∧ Can wr w.heap.size G k w C l) (fun i _ => 256 - (intOf i).toNat)
  case atStart => exact ⟨0, C, Nat.zero_le _, rfl, C1.out⟩
  case round =>
    obtain ⟨k, C, hk, rfl, hc⟩ := hrel
    have Hc := Lib.hid hc
    clear hc C1
    by_cases hlt : k < 256
    · have q0 : decide ((k : Int) < 256) = true := by rw [decide_eq_true_eq]; omega
      have q0' : decide (k < 256) = true := by rw [decide_eq_true_eq]; omega
      have ix := Iv.out k hlt wr
      have hx : 0 ≤ l.getD k 0 ∧ l.getD k 0 ≤ 11 := by
        have hkl : k < l.length := by rw [Hl.out]; exact hlt
        have := Hr.out (l[k]'hkl) (List.getElem_mem hkl)
        rw [List.getD_eq_getElem?_getD, List.getElem?_eq_getElem hkl]; exact this
      obtain ⟨n, hn⟩ : ∃ n : Nat, l.getD k 0 = (n : Int) := ⟨(l.getD k 0).toNat, by omega⟩
      rw [hn] at ix hx
      by_cases h0 : n = 0
      · subst h0
        have Nx := Lib.hid (Hc.out.cw.congr (f' := fun n => Wd.cv l n (k + 1)) fun m hm => by
          unfold Wd.cv
          split
          · rfl
          · rename_i h; exact (Wd.vals_miss (by rw [hn]; intro e; apply h; omega)).symm)
        clear hn
        go_wp2_with fail
        go_roundw
        case rel => exact ⟨k + 1, C, by omega, by go_num, Nx.out, Hc.out.first, Hc.out.sum, Hc.out.bel⟩
        case measure => simp [intOf]; omega
      · have q1 : decide (0 < (n : Int)) = true := by rw [decide_eq_true_eq]; omega
        have q1' : decide (0 < n) = true := by rw [decide_eq_true_eq]; omega
        have hn12 : n < 12 := by omega
        obtain ⟨A, c, hC, hown⟩ := Hc.out.cw.row n hn12
        have hq := cv_few l n (k := k) (by rw [Hl.out]; omega)
        have hvn : (Wd.cv l n k) ++ [k] = Wd.cv l n (k + 1) := by
          unfold Wd.cv
          rw [if_neg h0, if_neg h0]; exact (Wd.vals_hit hn).symm
        have Hvm := Lib.hid (show ∀ m, m < 12 → (if m = n then (Wd.cv l n k) ++ [k] else Wd.cv l m k) = Wd.cv l m (k + 1) from fun m hm => by
          by_cases hmn : m = n
          · subst hmn; rw [if_pos rfl]; exact hvn
          · rw [if_neg hmn]
            unfold Wd.cv
            split
            · rfl
            · exact (Wd.vals_miss (by rw [hn]; intro e; exact hmn (by omega))).symm)
        obtain ⟨q, hqe⟩ : ∃ q, (Wd.cv l n k).length = q := ⟨_, rfl⟩
        rw [hqe] at hC hq
        have c7 : wr.cell? ⟨G, n, none⟩ = some (.slice A q c) := by rw [Hc.out.cw.blk.cell, hC]
        have c7a : ∀ o, (wr.alloc o).cell? ⟨G, n, none⟩ = some (.slice A q c) := fun o => by rw [(Hc.out.cw.blk.alloc o).cell, hC]
        have ixn := fun W => index12s hn12 G W
        have hk8 : IntKind.u8.wrap (k : Int) = (k : Int) := by rw [IntKind.wrap_u8]; omega
        have HC := Lib.hid hC
        have Hqe := Lib.hid hqe
        have Hq := Lib.hid (show q ≤ 256 by omega)
        clear hn hC hown hvn hqe hx
        go_wp2_with fail
        have Step := Lib.hid (fun (A5 : Option Addr) (c5 : Nat) (w5 : World) (h : Hid (Cw (w5.setCell ⟨G, n, none⟩ (.slice A5 (q + 1) c5)) w.heap.size G (C.setIfInBounds n (.slice A5 (q + 1) c5)) (fun m => if m = n then Wd.cv l n k ++ [k] else Wd.cv l m k) ∧ Below w.heap.size wr w5)) => show Can (w5.setCell ⟨G, n, none⟩ (.slice A5 (q + 1) c5)) w.heap.size G (k + 1) w (C.setIfInBounds n (.slice A5 (q + 1) c5)) l from
          ⟨h.out.1.congr Hvm.out, fun m hm => by rw [Array.getElem?_setIfInBounds_ne (by omega)]; exact Hc.out.first m hm, by rw [Array.getElem?_setIfInBounds_ne (by omega)]; exact Hc.out.sum, (Hc.out.bel.trans h.out.2).setCell (p := ⟨G, n, none⟩) (by show w.heap.size ≤ G; omega) _⟩)
        go_region_law (first
          | (refine cw_step (x := k) Hc.out.cw hn12 HC.out Hqe.out Hq.out rfl rfl rfl rfl rfl ?_; intro A5 c5 w5 f5 c5' W5))
        all_goals
          go_wp2_with fail
          go_roundw
          case rel => exact ⟨k + 1, _, by omega, by go_num, Step.out _ _ _ W5⟩
          case measure => simp [intOf]; omega
    · have hk6 : k = 256 := by omega
      subst hk6
      have q0 : decide ((256 : Int) < 256) = false := by simp
      go_wp2_with fail
      go_loopw [6] (fun i wr => ∃ (j : Nat) (C : Array Value), 1 ≤ j ∧ j ≤ 12 ∧ i = .int .i64 j ∧ Cw wr w.heap.size G C (fun n => Wd.cv l n 256) ∧ (∀ n, n < 12 → C[12 + n]? = some (.int .i64 ((fvK l j n : Nat) : Int))) ∧ C[24]? = some (.int .i64 ((ksum l : Nat) : Int)) ∧ Below w.heap.size w wr) (fun i _ => 12 - (intOf i).toNat)
      case atStart =>
        refine ⟨1, C, by decide, by decide, rfl, Hc.out.cw, fun n hn => ?_, Hc.out.sum, Hc.out.bel⟩
        rw [Hc.out.first n hn]
        unfold fvK Wd.fv
        by_cases h0 : n = 0
        · subst h0; rfl
        · rw [if_neg (by omega)]; rfl
      case round =>
        obtain ⟨j, C', hj1, hj, rfl, hcw, hfi, hsu, hbe⟩ := hrel
        have Hcw := Lib.hid hcw
        have Hfi := Lib.hid hfi
        have Hsu := Lib.hid hsu
        have Hbe := Lib.hid hbe
        clear hcw hfi hsu hbe Hc hlt
        by_cases hjl : j < 12
        · have q1 : decide ((j : Int) ≤ 11) = true := by rw [decide_eq_true_eq]; omega
          have q1' : decide (j ≤ 11) = true := by rw [decide_eq_true_eq]; omega
          obtain ⟨i, hi⟩ : ∃ i, j = i + 1 := ⟨j - 1, by omega⟩
          have hi12 : i < 12 := by omega
          have s1 : (j : Int) - 1 = (i : Int) := by omega
          have s2 : IntKind.i64.wrap ((j : Int) - 1) = (i : Int) := by rw [IntKind.wrap_i64]; omega
          have ia := fun W => index12s hi12 G W
          have ib := fun W => index12i hi12 G W
          have ic := fun W => index12i hjl G W
          obtain ⟨A, c, hC, hown⟩ := Hcw.out.row i hi12
          have hq := cv_few l i (k := 256) (by rw [Hl.out]; exact Nat.le_refl _)
          have hff := fv_le (l := l) hi12
          have hnx := Wd.fv_next Hl.out i
          have hfo := Hfi.out i hi12
          have hfn := Hfi.out j hjl
          have e1 : fvK l j i = Wd.fv l i := by unfold fvK; rw [if_pos (by omega)]
          have e2 : fvK l j j = 0 := by unfold fvK; rw [if_neg (by omega)]
          rw [e1] at hfo
          rw [e2] at hfn
          generalize (Wd.cv l i 256).length = q at *
          generalize Wd.fv l i = v at *
          have ca : wr.cell? ⟨G, i, none⟩ = some (.slice A q c) := by rw [Hcw.out.blk.cell, hC]
          have cb : wr.cell? ⟨G, 12 + i, none⟩ = some (.int .i64 (v : Int)) := by rw [Hcw.out.blk.cell, hfo]
          have cc : wr.cell? ⟨G, 12 + j, none⟩ = some (.int .i64 0) := by rw [Hcw.out.blk.cell, hfn]; rfl
          have fc := Hcw.out.blk.frozen (12 + j)
          obtain ⟨T, hT⟩ : ∃ T : Nat, T = v + q := ⟨_, rfl⟩
          obtain ⟨U, hU⟩ : ∃ U : Nat, U = T * 2 := ⟨_, rfl⟩
          have s3 : (v : Int) + (q : Int) = (T : Int) := by omega
          have s4 : IntKind.i64.wrap ((v : Int) + (q : Int)) = (T : Int) := by rw [IntKind.wrap_i64]; omega
          have s5 : (T : Int) * 2 = (U : Int) := by omega
          have s6 : IntKind.i64.wrap ((T : Int) * 2) = (U : Int) := by rw [IntKind.wrap_i64]; omega
          have hUf : U = Wd.fv l j := by rw [hU, hT, hi, hnx]
          have Hn := Lib.hid (show Cw ((wr.setCell ⟨G, 12 + j, none⟩ (.int .i64 (U : Int))).drew) w.heap.size G (C'.setIfInBounds (12 + j) (.int .i64 (U : Int))) (fun n => Wd.cv l n 256) ∧ (∀ n, n < 12 → (C'.setIfInBounds (12 + j) (.int .i64 (U : Int)))[12 + n]? = some (.int .i64 ((fvK l (j + 1) n : Nat) : Int))) ∧ (C'.setIfInBounds (12 + j) (.int .i64 (U : Int)))[24]? = some (.int .i64 ((ksum l : Nat) : Int)) ∧ Below w.heap.size w ((wr.setCell ⟨G, 12 + j, none⟩ (.int .i64 (U : Int))).drew) from by
            refine ⟨(Hcw.out.set_ (by omega) _).keep fun _ _ _ => rfl, fun n hn => ?_, ?_, (Hbe.out.setCell (p := ⟨G, 12 + j, none⟩) (by show w.heap.size ≤ G; omega) _).drew⟩
            · by_cases hnj : n = j
              · subst hnj
                rw [Array.getElem?_setIfInBounds_self_of_lt (by rw [Hcw.out.size]; omega), hUf]
                unfold fvK
                rw [if_pos (by omega)]
              · rw [Array.getElem?_setIfInBounds_ne (by omega), fvK_next l j hnj]; exact Hfi.out n hn
            · rw [Array.getElem?_setIfInBounds_ne (by omega)]; exact Hsu.out)
          have Hi := Lib.hid hi
          clear hi hC hown hnx hfo hfn e1 e2 hT hU hUf Hcw Hfi Hsu Hbe
          go_wp2_with fail
          go_region
          all_goals
            go_wp2_with fail
            go_roundw
            case rel => exact ⟨j + 1, _, by omega, by omega, by go_num, Hn.out⟩
            case measure => simp [intOf]; omega
        · have hj12 : j = 12 := by omega
          subst hj12
          have q1 : decide ((12 : Int) ≤ 11) = false := by simp
          go_wp2_with fail
          go_ret
          refine ⟨G, C', rfl, ⟨Hcw.out, fun n hn => ?_, Hsu.out⟩, Hbe.out⟩
          rw [Hfi.out n hn]
          unfold fvK
          rw [if_pos hn]
end Go.Proofs.Ytnkgcibdibgmjaa
