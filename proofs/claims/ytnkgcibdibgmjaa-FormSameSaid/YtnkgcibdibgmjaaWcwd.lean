/- The program's words of all bytes. The program's sink of bits: bit, put. -/
import Derived.Test.YtnkgcibdibgmjaaWok
import Derived.Test.YtnkgcibdibgmjaaWun
import Derived.Test.YtnkgcibdibgmjaaWca
import Derived.Test.YtnkgcibdibgmjaaRunpw
import Derived.BigRegion
import Derived.BigQuiet
namespace Go.Proofs.Ytnkgcibdibgmjaa
open Go.RowKit

/-- A slice out of an array of 12 that is held by value. -/
theorem index12v {D : Array Value} {k : Nat} (hk : k < 12) {v : Value} (h0 : D[k]? = some v) (w : World) : (Instr.index 77 (.agg D) (.int .i64 (k : Int))).run Try.prog w = .ok v w := by
  have h1 : 0 ≤ (k : Int) ∧ (k : Int) < 12 := by omega
  have hu := Try.underlying77
  simp [Instr.index, run_underlying hu, asIntOf, h0, go_sem]
  omega
/-- The type of an array of 12 slices, its number and its size hidden. -/
structure T12s (t : TypeId) (N : Nat) : Prop where
  ht : t = 77
  hN : N = 12
  agg : ∀ w, (isAgg t).run Try.prog w = .ok true w
  sz : ∀ w, (sizeOf t).run Try.prog w = .ok N w
theorem t12s : ∃ t N, T12s t N := ⟨_, _, rfl, rfl, fun w => by kernel_rfl, fun w => by kernel_rfl⟩

set_option maxRecDepth 8000 in
set_option maxHeartbeats 8000000 in
theorem cwds_any {w : World} {B G : Nat} {C : Array Value} {l : List Int} (h : Code w B G C l) (hl : l.length = 256) :
    Calls Try.prog 27 #[.pointer (some ⟨G, 0, none⟩)] w fun e w' => e = .returned (.agg (ints (Wd.codes l))) ∧ Below w.heap.size w w' := by
  obtain ⟨t, N, ht, hN, hagg, hix, hund, hsz, hz0⟩ := t256
  obtain ⟨t2, N2, ht2, hN2, hagg2, hsz2⟩ := t12s
  obtain ⟨Z, hZ⟩ : ∃ Z, Z = ints (List.replicate 256 0) := ⟨_, rfl⟩
  rw [← hZ] at hz0
  obtain ⟨D, hD⟩ : ∃ D : Array Value, D = (C.toList.take 12).toArray := ⟨_, rfl⟩
  have hCs := h.cw.size
  have Dn := Lib.hid (fun n (hn : n < 12) => show D[n]? = C[n]? from by rw [hD]; simp [hn])
  have Rw := Lib.hid (fun n (hn : n < 12) => h.cw.row n hn)
  have Iv := Lib.hid (fun n (hn : n < 12) v (h0 : D[n]? = some v) (w : World) => index12v hn h0 w)
  rw [← ht2] at Iv
  have E1 : Op.alloc 50 = Op.alloc t := by rw [ht]
  have E2 : ∀ a b, Op.store 50 a b = Op.store t a b := by rw [ht]; exact fun _ _ => rfl
  have E3 : ∀ a b, Op.indexAddr 50 a b = Op.indexAddr t a b := by rw [ht]; exact fun _ _ => rfl
  have E4 : ∀ a, Op.load 50 a = Op.load t a := by rw [ht]; exact fun _ => rfl
  have E5 : ∀ a, Op.load 77 a = Op.load t2 a := by rw [ht2]; exact fun _ => rfl
  have E6 : ∀ a b, Op.index 77 a b = Op.index t2 a b := by rw [ht2]; exact fun _ _ => rfl
  obtain ⟨W1, hW1⟩ : ∃ x, x = w.alloc (.cells Z t) := ⟨_, rfl⟩
  obtain ⟨W2, hW2⟩ : ∃ x, x = W1.alloc (.cells Z t) := ⟨_, rfl⟩
  obtain ⟨g1, hg1⟩ : ∃ g, w.heap.size = g := ⟨_, rfl⟩
  obtain ⟨g3, hg3⟩ : ∃ g, W1.heap.size = g := ⟨_, rfl⟩
  have h12 : g3 = g1 + 1 := by rw [← hg3, hW1, ← hg1]; simp
  have HB := Lib.hid (show Below w.heap.size w W2 by rw [hW2, hW1]; exact ((Below.refl _ _).alloc (Nat.le_refl _) _).alloc (by simp) _)
  have ld2 : (loadCellsFrom ⟨G, 0, none⟩ 0 N2 #[]).run Try.prog W2 = .ok D W2 := by
    have hb := h.cw.blk.keep (HB.out.block G h.cw.blk.lt)
    have hlen : (C.toList.take 12).length = 12 := by rw [List.length_take, Array.length_toList, hCs]; decide
    have := run_loadCells_list (P := Try.prog) W2 ⟨G, 0, none⟩ (C.toList.take 12) (fun j v hv => by
      rw [Addr.add_lit, Nat.zero_add, hb.cell]
      have hj : j < 12 := by
        have := (List.getElem?_eq_some_iff.1 hv).1
        rw [hlen] at this; exact this
      rw [List.getElem?_take_of_lt hj] at hv
      simpa using hv)
    rw [hlen] at this
    rw [hN2, hD]; exact this
  have Cd := Lib.hid (fun (X : World) (hb : Below w.heap.size w X) => show Code X B G C l from h.keep fun b _ hlt => hb.block b hlt)
  have b1 := Lib.hid (show Blk W2 g1 t Z by
    have := (Blk.new w t Z).alloc (.cells Z t)
    rw [hW2, hW1, ← hg1]; exact this)
  have b3 := Lib.hid (show Blk W2 g3 t (ints (Wd.asgP l 0 0)) by
    rw [Wd.asgP_none 0 (by decide), ← hZ, hW2, ← hg3]; exact Blk.new _ _ _)
  have e1 : w.alloc (.cells Z t) = W1 := hW1.symm
  have e2 : W1.alloc (.cells Z t) = W2 := hW2.symm
  have hd : g1 ≠ g3 := by omega
  have hgw : w.heap.size ≤ g1 := by omega
  have hgw3 : w.heap.size ≤ g3 := by omega
  have Hix := Lib.hid hix
  have Ht := Lib.hid ht
  have Hl := Lib.hid hl
  have HZs := Lib.hid (show Z.size = N by rw [hZ, ints_size, List.length_replicate, hN])
  have HN := Lib.hid hN
  clear ht hN hix ht2 hN2 hZ hD hCs hW1 hW2 h12 h hl
  go_enter Try.func27, Try.ntmps27
  simp only [E1, E2, E3, E4, E5, E6]
  clear E1 E2 E3 E4 E5 E6
  go_wp2_with fail
  go_loopw [12] (fun i wr => ∃ n : Nat, i = .int .i64 (n : Int) ∧ n ≤ 12 ∧ Blk wr g1 t Z ∧ Blk wr g3 t (ints (Wd.asgP l n 0)) ∧ Below w.heap.size w wr) (fun i _ => 12 - (intOf i).toNat)
  case atStart => exact ⟨0, rfl, by decide, b1.out, b3.out, HB.out⟩
  case round =>
    obtain ⟨n, rfl, hn, hb1, hb3, hbe⟩ := hrel
    have K1 := Lib.hid hb1
    have K3 := Lib.hid hb3
    have HBe := Lib.hid hbe
    clear hb1 hb3 hbe b1 b3 HB e1 e2 ld2 hg1 hg3
    by_cases hlt : n < 12
    · have q0 : decide ((n : Int) < 12) = true := by rw [decide_eq_true_eq]; omega
      have q0' : decide (n < 12) = true := by rw [decide_eq_true_eq]; exact hlt
      obtain ⟨A, c, hC, hown⟩ := Rw.out n hlt
      have iv := fun W => Iv.out n hlt _ ((Dn.out n hlt).trans hC) W
      obtain ⟨q, hq⟩ : ∃ q, q = (Wd.cv l n 256).length := ⟨_, rfl⟩
      rw [← hq] at iv hC
      have Hq := Lib.hid hq
      have hqb : q ≤ 256 := by rw [hq]; exact cv_few l n (by rw [Hl.out]; exact Nat.le_refl _)
      have HC := Lib.hid hC
      clear hown hq hC
      go_wp2_with fail
      go_loopw [18] (fun i wr => ∃ p : Nat, i = .int .i64 (p : Int) ∧ p ≤ q ∧ Blk wr g1 t Z ∧ Blk wr g3 t (ints (Wd.asgP l n p)) ∧ Below w.heap.size w wr) (fun i _ => q - (intOf i).toNat)
      case atStart => exact ⟨0, rfl, Nat.zero_le _, K1.out, K3.out, HBe.out⟩
      case round =>
        obtain ⟨p, rfl, hp, hb1, hb3, hbe⟩ := hrel
        have L1 := Lib.hid hb1
        have L3 := Lib.hid hb3
        have LB := Lib.hid hbe
        clear hb1 hb3 hbe K1 K3 HBe
        by_cases hpq : p < q
        · have q1 : decide ((p : Int) < (q : Int)) = true := by rw [decide_eq_true_eq]; omega
          have q1' : decide (p < q) = true := by rw [decide_eq_true_eq]; exact hpq
          have cd := Cd.out wr LB.out
          have cf := cd.cfirst hlt
          obtain ⟨A1, c1, hC1, hown1⟩ := cd.cw.row n hlt
          rw [HC.out] at hC1
          injection hC1 with hC1; injection hC1 with hA _ hc
          subst hA; subst hc
          obtain ⟨b, o, rfl, cx⟩ := sl_cell (Sl.of_own hown1) (k := p) (by rw [← Hq.out]; exact hpq)
          have hx := Wd.cv_lt (l := l) (n := n) (Nat.le_refl 256) ((Wd.cv l n 256).getD p 0) (by
            rw [List.getD_eq_getElem?_getD, List.getElem?_eq_getElem (by rw [← Hq.out]; exact hpq)]; exact List.getElem_mem _)
          have hst := Wd.asgP_step Hl.out (n := n) (p := p) (by rw [← Hq.out]; exact hpq)
          have hfv := fv_le (l := l) hlt
          generalize (Wd.cv l n 256).getD p 0 = x at *
          generalize Wd.fv l n = f at *
          obtain ⟨V, hV⟩ : ∃ V : Nat, V = f + p := ⟨_, rfl⟩
          rw [← hV] at hst
          have s1 : (f : Int) + (p : Int) = (V : Int) := by omega
          have ixf := fun W => index12i hlt G W
          have ix3 := Hix.out .u8 x hx g3
          have ck := L3.out.cell x
          rw [ints_at (by rw [Wd.asgP_len]; exact hx)] at ck
          have fk := L3.out.frozen x
          have st := L3.out.set_ x (.int .i64 (V : Int))
          rw [ints_set, ← hst] at st
          have M3 := Lib.hid st
          have M1 := Lib.hid (L1.out.far (p := ⟨g3, x, none⟩) (Ne.symm hd) (.int .i64 (V : Int)))
          have MB := Lib.hid (LB.out.setCell (p := ⟨g3, x, none⟩) hgw3 (.int .i64 (V : Int)))
          have hVb : V ≤ 600000 := by omega
          clear cd hown1 hst st hV L1 L3 LB
          generalize (Wd.asgP l n p).getD x 0 = y at *
          go_wp2_with fail
          go_roundw
          case rel => exact ⟨p + 1, by go_num, by omega, M1.out, M3.out, MB.out⟩
          case measure => simp [intOf]; omega
        · have hpq' : p = q := by omega
          subst hpq'
          have q1 : decide ((p : Int) < (p : Int)) = false := by simp
          have q1' : decide (p < p) = false := by simp
          have hps := Wd.asgP_pass Hl.out n
          rw [← Hq.out] at hps
          have M3 := Lib.hid (show Blk wr g3 t (ints (Wd.asgP l (n + 1) 0)) by rw [← hps]; exact L3.out)
          clear hps
          go_wp2_with fail
          go_roundw
          case rel => exact ⟨n + 1, by go_num, by omega, L1.out, M3.out, LB.out⟩
          case measure => simp [intOf]; omega
    · have hn12 : n = 12 := by omega
      subst hn12
      have q0 : decide ((12 : Int) < 12) = false := by simp
      have k3 := K3.out
      rw [Wd.asgP_all] at k3
      have hL : (Wd.codes l).length = 256 := Wd.asg_len _ _ _
      obtain ⟨T, hT⟩ : ∃ T, T = ints (Wd.codes l) := ⟨_, rfl⟩
      have hTs : T.size = N := by rw [hT, ints_size, hL, HN.out]
      rw [← hT] at k3
      have l1 := load_blk (N := N) hTs k3
      obtain ⟨s1, hb2⟩ := store_blk (ds := T) (by rw [hTs, HZs.out]) K1.out (fun u hu => by
        have := ints_one (Wd.codes l)
        rw [← hT, Array.all_eq_true_iff_forall_mem] at this
        exact this u (by simpa using hu))
      have l3 := load_blk (N := N) hTs hb2
      have hbl := Lib.hid (HBe.out.trans (below_cells (w := wr) T.toList g1 0 hgw))
      have HT := Lib.hid hT
      generalize hW7 : wr.setCells g1 0 T.toList = W7 at *
      clear hW7 hb2 k3 hT hL
      go_wp2_with fail
      refine bodyPost_ret (v := .agg T) ?_ rfl ⟨by rw [HT.out], hbl.out⟩
      simp [results, Try.results27]
      rw [← Ht.out]
      go_simp
end Go.Proofs.Ytnkgcibdibgmjaa

namespace Go.Proofs.Ytnkgcibdibgmjaa
open Go.RowKit

theorem own_at {w : World} {B n c : Nat} {A : Option Addr} {l : List Nat} (h : OwnB w B A n c l) (hn : 0 < n) : ∃ g, A = some ⟨g, 0, none⟩ ∧ B ≤ g ∧ g < w.heap.size ∧ (∀ i, i < n → w.cell? ⟨g, i, none⟩ = some (.int .u8 ((l.getD i 0 : Nat) : Int))) ∧ (∀ i, w.frozen? ⟨g, i, none⟩ = false) ∧
    ∀ j x : Nat, OwnB (w.setCell ⟨g, j, none⟩ (.int .u8 (x : Int))) B A n c (l.set j x) := by
  have hl := ownB_len h
  have hlt := h.lt
  rcases h.2 with ⟨h', h0⟩ | ⟨g, cap, cur, h', hg, _⟩
  · omega
  · injection h' with hA hn' hc'
    subst hA
    refine ⟨g, rfl, hg, (hlt g rfl).2, fun i hi => ?_, fun i => h.frozenAt i, fun j x => ?_⟩
    · rw [h.cellAt i (by omega), byts_at (by omega)]
    · have := (h.stored j (.int .u8 (x : Int))).1
      rw [byts_set] at this
      exact this

/-- Block K is a sink behind the bytes T and the bits bs. -/
structure Snk (w : World) (B K : Nat) (T bs : List Nat) (s : List Nat × List Nat) (A : Option Addr) (n c : Nat) : Prop where
  gB : B ≤ K
  blk : Blk w K 59 #[.slice A n c, .int .i64 ((Wd.freeN s : Nat) : Int)]
  own : OwnB w B A n c (T ++ Wd.fin s)
  pk : Wd.Pk bs s
/-- What bit leaves. -/
def SnkR (T bs : List Nat) (s : List Nat × List Nat) (b : Nat) (B K : Nat) (w w' : World) : Prop := (∃ A n c, Snk w' B K T (bs ++ [b]) (Wd.push s b) A n c) ∧ Below B w w'
/-- One bit of the last byte v is to be set: f will be free behind it. -/
structure Smid (w : World) (B K : Nat) (T bs : List Nat) (s : List Nat × List Nat) (b : Nat) (X : List Nat) (v f p n : Nat) (A : Option Addr) (c : Nat) : Prop where
  gB : B ≤ K
  blk : Blk w K 59 #[.slice A n c, .int .i64 (f : Int)]
  own : OwnB w B A n c (X ++ [v])
  last : (X ++ [v]).getD p 0 = v
  at_ : X.length = p
  v256 : v < 256
  f8 : f < 8
  low : v % 2 ^ (f + 1) = 0
  pk : Wd.Pk bs s
  two : b < 2
  goal : T ++ Wd.fin (Wd.push s b) = X ++ [v + b * 2 ^ f]
  free : Wd.freeN (Wd.push s b) = f
theorem snk_end {w wt : World} {B K : Nat} {T bs : List Nat} {s : List Nat × List Nat} {b : Nat} {X : List Nat} {v f p n c g Y : Nat} (h : Smid wt B K T bs s b X v f p n (some ⟨g, 0, none⟩) c) (hBg : B ≤ g) (_ : g < wt.heap.size) (hY : Y = v + b * 2 ^ f)
    (ho : OwnB (wt.setCell ⟨g, p, none⟩ (.int .u8 (Y : Int))) B (some ⟨g, 0, none⟩) n c ((X ++ [v]).set p Y)) (hb : Below B w wt) : SnkR T bs s b B K w ((wt.setCell ⟨g, p, none⟩ (.int .u8 (Y : Int))).drew) := by
  have hne : g ≠ K := by
    have := ownB_ne h.own h.blk (by decide)
    intro e; subst e; exact this rfl
  refine ⟨⟨some ⟨g, 0, none⟩, n, c, h.gB, ?_, ?_, h.pk.push h.two⟩, (hb.setCell (p := ⟨g, p, none⟩) hBg _).drew⟩
  · rw [h.free]; exact (h.blk.far (p := ⟨g, p, none⟩) hne _).keep rfl
  · rw [h.goal, ← hY]
    have e : (X ++ [v]).set p Y = X ++ [Y] := by
      rw [List.set_append_right _ _ (by rw [h.at_]; exact Nat.le_refl _), h.at_, Nat.sub_self]; rfl
    rw [e] at ho
    exact own_keep ho fun _ _ _ => rfl
theorem snk_app {w : World} {B K n c : Nat} {A : Option Addr} {l : List Nat} {u : Value} (hB : B ≤ K) (h : OwnB w B A n c l) (hk : Blk w K 59 #[.slice A n c, u]) (o : Obj) {v' : Value} {w6 : World}
    (h1 : w6.ownsRow B 5 1 v' (n + (byts [0]).length) (byts l ++ byts [0])) (h2 : (w.alloc o).grownBy w6 (Value.slice A n c).ownBlock) (h3 : v'.ownBlock = (Value.slice A n c).ownBlock ∨ v'.ownBlock = some (w.alloc o).heap.size) :
    ∃ A' c', v' = .slice A' (n + 1) c' ∧ w6.frozen? ⟨K, 0, none⟩ = false ∧ w6.frozen? ⟨K, 1, none⟩ = false ∧ w6.cell? ⟨K, 0, none⟩ = some (.slice A n c) ∧ w6.cell? ⟨K, 1, none⟩ = some u ∧
      Hid (Blk w6 K 59 #[.slice A n c, u] ∧ OwnB w6 B A' (n + 1) c' (l ++ [0]) ∧ bk A' ≠ some K ∧ Below B w w6) := by
  have hKl := hk.lt
  have hne := ownB_ne h hk (by decide)
  have hs := World.size_alloc w o
  obtain ⟨A', c', rfl, ho, hb⟩ := ownB_app (ownB_alloc h o) (by omega) (r := [0]) rfl (show n + 1 = n + 1 from rfl) h1 h2
  rw [bk_own] at h2
  rw [bk_own, bk_own] at h3
  have b3 : Blk w6 K _ _ := (hk.alloc o).grown h2 hne
  refine ⟨A', c', rfl, b3.frozen 0, b3.frozen 1, b3.cell 0, b3.cell 1, Lib.hid ⟨b3, ho, ?_, ((Below.refl B w).alloc (by omega) o).trans hb⟩⟩
  rcases h3 with e | e <;> rw [e]
  · exact hne
  · rw [hs]; intro hh; injection hh with hh; omega
theorem snk_far {w : World} {B n c K j : Nat} {A : Option Addr} {l : List Nat} (h : OwnB w B A n c l) (hne : bk A ≠ some K) (v : Value) : OwnB (w.setCell ⟨K, j, none⟩ v) B A n c l :=
  own_keep h fun b hb _ => Below.heap_setCell w _ v b (by intro e; rw [bk_own] at hb; exact hne (by rw [hb, e]))
theorem last_at (X : List Nat) (v : Nat) : (X ++ [v]).getD X.length 0 = v := by
  rw [List.getD_eq_getElem?_getD, List.getElem?_append_right (Nat.le_refl _), Nat.sub_self]; rfl

set_option maxRecDepth 8000 in
set_option maxHeartbeats 8000000 in
theorem sbit_any {w : World} {B K : Nat} {T bs : List Nat} {s : List Nat × List Nat} {A : Option Addr} {n c : Nat} (h : Snk w B K T bs s A n c) (hn : n ≤ 50000) {b : Nat} (hb : b < 2) :
    Calls Try.prog 47 #[.pointer (some ⟨K, 0, none⟩), .int .i64 (b : Int)] w fun e w' => e = .returned (.tuple #[]) ∧ SnkR T bs s b B K w w' := by
  obtain ⟨i0, hi0, hz0, hs0, hb0⟩ := byte_parts (P := Try.prog) (e := 5) (by kernel_rfl)
  have hlen := ownB_len h.own
  have hgB := h.gB
  by_cases h0 : s.2.length = 0
  · obtain ⟨e1, e2⟩ := Wd.sink_new h0 b
    have hfr : Wd.freeN s = 0 := by unfold Wd.freeN; rw [if_pos h0]
    have hblk := h.blk
    rw [hfr] at hblk
    have Hb := Lib.hid hblk
    have Ho := Lib.hid h.own
    have c0 : w.cell? ⟨K, 0, none⟩ = some (.slice A n c) := hblk.cell 0
    have c1 : w.cell? ⟨K, 1, none⟩ = some (.int .i64 0) := hblk.cell 1
    have Hpk := Lib.hid h.pk
    have He1 := Lib.hid e1
    have He2 := Lib.hid e2
    have Mz := Lib.hid (ownB_alloc h.own (.cells #[.int .u8 0] 5))
    have Sz := Lib.hid (sl_cells (w := w) (cs := #[.int .u8 0]) (l := [0]) rfl)
    have hKl := hblk.lt
    have hwB2 : B ≤ (w.alloc (.cells #[.int .u8 0] 5)).heap.size := by rw [World.size_alloc]; omega
    have Hlen := Lib.hid hlen
    clear h hblk e1 e2 hlen hfr h0
    go_enter Try.func47, Try.ntmps47
    go_upto_region 2 with (at_builtin; refine wpList_append_sl (base := B) _ rfl (.tmp 13) (.tmp 14) _ rfl Try.underlying22 hi0 hz0 hs0 hb0 rfl rfl Mz.out rfl (byts_length [0]).symm (by simp) Sz.out (byts_one _) (by rw [byts_length]; exact Nat.le_refl _) (by rw [byts_length]; unfold maxLen; simp; omega) (by rw [byts_length]; simp; omega) hwB2 ?_; intro v6 w6 h1 h2 h3; obtain ⟨A6, c6, rfl, f6, f6', d6, d6', X6⟩ := snk_app hgB Ho.out Hb.out _ h1 h2 h3; clear h1 h2 h3)
    obtain ⟨X0, hX0⟩ : ∃ X, X = T ++ Wd.fin s := ⟨_, rfl⟩
    obtain ⟨v, hv⟩ : ∃ v : Nat, v = 0 := ⟨_, rfl⟩
    obtain ⟨f, hf⟩ : ∃ f : Nat, f = 7 := ⟨_, rfl⟩
    obtain ⟨p, hp⟩ : ∃ p : Nat, p = n := ⟨_, rfl⟩
    obtain ⟨q, hq⟩ : ∃ q : Nat, q = n + 1 := ⟨_, rfl⟩
    have hlast := last_at (T ++ Wd.fin s) 0
    have M := Lib.hid (show Smid (((w6.setCell ⟨K, 0, none⟩ (.slice A6 (n + 1) c6)).setCell ⟨K, 1, none⟩ (.int .i64 8)).setCell ⟨K, 1, none⟩ (.int .i64 7)) B K T bs s b X0 v f p q A6 c6 from by
      subst hX0; subst hv; subst hf; subst hq; subst hp
      refine ⟨hgB, ?_, snk_far (snk_far (snk_far X6.out.2.1 X6.out.2.2.1 _) X6.out.2.2.1 _) X6.out.2.2.1 _, by rw [← Hlen.out]; exact hlast, Hlen.out, by decide, by decide, by decide, Hpk.out, hb, ?_, He2.out⟩
      · have := ((X6.out.1.set_ 0 (.slice A6 (p + 1) c6)).set_ 1 (.int .i64 8)).set_ 1 (.int .i64 7)
        simpa using this
      · rw [He1.out, List.append_assoc, Nat.zero_add])
    have hBel := Lib.hid (show Below B w (((w6.setCell ⟨K, 0, none⟩ (.slice A6 (n + 1) c6)).setCell ⟨K, 1, none⟩ (.int .i64 8)).setCell ⟨K, 1, none⟩ (.int .i64 7)) from
      ((X6.out.2.2.2.setCell (p := ⟨K, 0, none⟩) hgB _).setCell (p := ⟨K, 1, none⟩) hgB _).setCell (p := ⟨K, 1, none⟩) hgB _)
    clear hlast X6 c0 c1 Hb Ho Mz Sz hX0 hv hf
    go_upto_region 4 with fail
    generalize ((w6.setCell ⟨K, 0, none⟩ (.slice A6 (n + 1) c6)).setCell ⟨K, 1, none⟩ (.int .i64 8)).setCell ⟨K, 1, none⟩ (.int .i64 7) = wt at *
    clear f6 f6' d6 d6'
    obtain ⟨g, rfl, hBg, hgl, hcell, hfz, hset⟩ := own_at M.out.own (by omega)
    have c0 := M.out.blk.cell 0
    have c1 := M.out.blk.cell 1
    simp only [List.getElem?_toArray, List.getElem?_cons_zero, List.getElem?_cons_succ] at c0 c1
    have cx := hcell p (by omega)
    rw [M.out.last] at cx
    have fx := hfz p
    have hf8 := M.out.f8
    obtain ⟨P, hP⟩ : ∃ P : Nat, P = b * 2 ^ f := ⟨_, rfl⟩
    have hor := Wd.sink_or M.out.v256 M.out.f8 M.out.low hb
    have hfit := Wd.sink_fits M.out.v256 M.out.f8 M.out.low hb
    rw [← hP] at hor hfit
    obtain ⟨Y, hY⟩ : ∃ Y : Nat, Y = v + P := ⟨_, rfl⟩
    rw [← hY] at hor hfit
    have s1 : (q : Int) - 1 = (p : Int) := by omega
    have s2 : IntKind.i64.wrap ((q : Int) - 1) = (p : Int) := by rw [IntKind.wrap_i64]; omega
    have hPb : P < 256 := by omega
    have s3 : (b : Int) * 2 ^ f = (P : Int) := by rw [hP]; simp
    have s4 : IntKind.i64.wrap (P : Int) = (P : Int) := by rw [IntKind.wrap_i64]; omega
    have s5 : IntKind.u8.wrap (P : Int) = (P : Int) := by rw [IntKind.wrap_u8]; omega
    have s6 : IntKind.u8.wrap (Y : Int) = (Y : Int) := by rw [IntKind.wrap_u8]; omega
    have hpb : p ≤ 60000 := by omega
    have zp : (0 : Int) ≤ (p : Int) ∧ (p : Int) < (q : Int) := by omega
    have Fin := Lib.hid (show SnkR T bs s b B K w ((wt.setCell ⟨g, p, none⟩ (.int .u8 (Y : Int))).drew) from snk_end M.out hBg hgl (by rw [hY, hP]) (hset p Y) hBel.out)
    clear M hcell hfz hset hP hY hfit hBg hgl hBel hq hp
    set_option maxRecDepth 8000 in
    go_wp2_with fail
    go_region
    all_goals
      go_wp2_with fail
      go_end0
      exact ⟨rfl, Fin.out⟩
  · obtain ⟨v, e1, e2, e3, e4, e5, e6⟩ := Wd.sink_more h.pk h0 b
    obtain ⟨f, hf⟩ : ∃ f, f = 7 - s.2.length := ⟨_, rfl⟩
    rw [← hf] at e3 e4 e6
    have hfe : Wd.freeN s = f + 1 := by have := h.pk.few; omega
    have hblk := h.blk
    rw [hfe] at hblk
    have c1' : w.cell? ⟨K, 1, none⟩ = some (.int .i64 ((f + 1 : Nat) : Int)) := hblk.cell 1
    have f1' := hblk.frozen 1
    obtain ⟨F, hF⟩ : ∃ F : Nat, F = f + 1 := ⟨_, rfl⟩
    rw [← hF] at c1'
    have z0 : ((F : Int) == 0) = false := by rw [beq_eq_false_iff_ne]; omega
    have z0' : (F == 0) = false := by rw [beq_eq_false_iff_ne]; omega
    have zf : (F : Int) - 1 = (f : Int) := by omega
    have hF9 : F ≤ 8 := by omega
    obtain ⟨X, hX⟩ : ∃ X, X = T ++ s.1 := ⟨_, rfl⟩
    obtain ⟨p, hp⟩ : ∃ p : Nat, p = X.length := ⟨_, rfl⟩
    have hnp : n = p + 1 := by
      rw [← hlen, e1, ← List.append_assoc, ← hX, List.length_append, hp]; rfl
    have hown := h.own
    rw [e1, ← List.append_assoc, ← hX] at hown
    have M := Lib.hid (show Smid (w.setCell ⟨K, 1, none⟩ (.int .i64 (f : Int))) B K T bs s b X v f p n A c from by
      refine ⟨hgB, ?_, snk_far hown (ownB_ne h.own h.blk (by decide)) _, by rw [hp]; exact last_at X v, hp.symm, e2, by omega, e3, h.pk, hb, by rw [e4, ← List.append_assoc, ← hX], e6⟩
      have := hblk.set_ 1 (.int .i64 (f : Int))
      simpa using this)
    have hBel := Lib.hid (show Below B w (w.setCell ⟨K, 1, none⟩ (.int .i64 (f : Int))) from (Below.refl B w).setCell (p := ⟨K, 1, none⟩) hgB _)
    clear h h0 e1 e2 e3 e4 e5 e6 hf hfe hblk hF hX hp hown hlen hi0 hz0 hs0 hb0
    go_enter Try.func47, Try.ntmps47
    go_upto_region 4 with fail
    generalize w.setCell ⟨K, 1, none⟩ (.int .i64 (f : Int)) = wt at *
    clear c1' f1'
    obtain ⟨g, rfl, hBg, hgl, hcell, hfz, hset⟩ := own_at M.out.own (by omega)
    have c0 := M.out.blk.cell 0
    have c1 := M.out.blk.cell 1
    simp only [List.getElem?_toArray, List.getElem?_cons_zero, List.getElem?_cons_succ] at c0 c1
    have cx := hcell p (by omega)
    rw [M.out.last] at cx
    have fx := hfz p
    have hf8 := M.out.f8
    obtain ⟨P, hP⟩ : ∃ P : Nat, P = b * 2 ^ f := ⟨_, rfl⟩
    have hor := Wd.sink_or M.out.v256 M.out.f8 M.out.low hb
    have hfit := Wd.sink_fits M.out.v256 M.out.f8 M.out.low hb
    rw [← hP] at hor hfit
    obtain ⟨Y, hY⟩ : ∃ Y : Nat, Y = v + P := ⟨_, rfl⟩
    rw [← hY] at hor hfit
    have s1 : (n : Int) - 1 = (p : Int) := by omega
    have s2 : IntKind.i64.wrap ((n : Int) - 1) = (p : Int) := by rw [IntKind.wrap_i64]; omega
    have hPb : P < 256 := by omega
    have s3 : (b : Int) * 2 ^ f = (P : Int) := by rw [hP]; simp
    have s4 : IntKind.i64.wrap (P : Int) = (P : Int) := by rw [IntKind.wrap_i64]; omega
    have s5 : IntKind.u8.wrap (P : Int) = (P : Int) := by rw [IntKind.wrap_u8]; omega
    have s6 : IntKind.u8.wrap (Y : Int) = (Y : Int) := by rw [IntKind.wrap_u8]; omega
    have hpb : p ≤ 60000 := by omega
    have zp : (0 : Int) ≤ (p : Int) ∧ (p : Int) < (n : Int) := by omega
    have Fin := Lib.hid (show SnkR T bs s b B K w ((wt.setCell ⟨g, p, none⟩ (.int .u8 (Y : Int))).drew) from snk_end M.out hBg hgl (by rw [hY, hP]) (hset p Y) hBel.out)
    clear M hcell hfz hset hP hY hfit hBg hgl hBel hnp zf
    set_option maxRecDepth 8000 in
    go_wp2_with fail
    go_region
    all_goals
      go_wp2_with fail
      go_end0
      exact ⟨rfl, Fin.out⟩


theorem and1_big {y : Nat} (hy : y < 1000000) : bits BinOp.and IntKind.i64 (y : Int) 1 = ((y % 2 : Nat) : Int) := by
  have h : bits BinOp.and IntKind.i64 (y : Int) ((1 : Nat) : Int) = ((y &&& 1 : Nat) : Int) := by
    have hx : y &&& 1 ≤ 1 := Nat.and_le_right
    show IntKind.i64.wrap ((BitVec.ofInt 64 (y : Int) &&& BitVec.ofInt 64 ((1 : Nat) : Int)).toNat : Int) = _
    rw [BitVec.toNat_and, ofInt_i64 y (by omega), ofInt_i64 1 (by omega), IntKind.wrap_i64]
    omega
  rw [show (1 : Int) = ((1 : Nat) : Int) from rfl, h, Nat.and_one_is_mod]
theorem snk_len {w : World} {B K : Nat} {T bs : List Nat} {s : List Nat × List Nat} {A : Option Addr} {n c : Nat} (h : Snk w B K T bs s A n c) : n ≤ T.length + bs.length + 1 := by
  have h1 := ownB_len h.own
  have h2 := congrArg List.length h.pk.fin
  rw [Wd.bitsB_len, List.length_append, List.length_replicate] at h2
  rw [List.length_append] at h1
  omega
/-- What put leaves. -/
def PutR (T bs : List Nat) (s : List Nat × List Nat) (D : List Nat) (B K : Nat) (w w' : World) : Prop := (∃ A n c, Snk w' B K T (bs ++ D) (D.foldl Wd.push s) A n c) ∧ Below B w w'

set_option maxRecDepth 8000 in
set_option maxHeartbeats 8000000 in
theorem sput_any {w : World} {B K : Nat} {T bs : List Nat} {s : List Nat × List Nat} {A : Option Addr} {n c : Nat} (h : Snk w B K T bs s A n c) (v m : Nat) (hv : v < 524288) (hm : m ≤ 11) (hlen : T.length + bs.length + 20 ≤ 50000) :
    Calls Try.prog 29 #[.pointer (some ⟨K, 0, none⟩), .int .i64 (v : Int), .int .i64 (m : Int)] w fun e w' => e = .returned (.tuple #[]) ∧ PutR T bs s (Wd.wb v m) B K w w' := by
  have H := Lib.hid h
  clear h
  go_enter Try.func29, Try.ntmps29
  go_wp2_with fail
  go_loopw [6] (fun vz wr => ∃ (z : Int) (r : Nat) (D : List Nat), vz = .int .i64 z ∧ z = (r : Int) - 1 ∧ r ≤ 11 ∧ D ++ Wd.wb v r = Wd.wb v m ∧ PutR T bs s D B K w wr) (fun vz _ => (intOf vz + 1).toNat)
  case atStart => exact ⟨(m : Int) - 1, m, [], rfl, rfl, hm, rfl, ⟨A, n, c, by rw [List.append_nil]; exact H.out⟩, Below.refl _ _⟩
  case round =>
    obtain ⟨z, r, D, rfl, hz, hr, hd, ⟨A', n', c', hs⟩, hb⟩ := hrel
    have Hd := Lib.hid hd
    have Hs := Lib.hid hs
    have Hb := Lib.hid hb
    clear hd hs hb H
    cases r with
    | zero =>
      obtain rfl : z = -1 := by omega
      have q1 : decide ((0 : Int) ≤ -1) = false := by decide
      clear hz
      go_wp2_with fail
      go_end0
      have hd := Hd.out
      rw [Wd.wb, List.append_nil] at hd
      rw [← hd]
      exact ⟨rfl, ⟨A', n', c', Hs.out⟩, Hb.out⟩
    | succ r =>
      obtain rfl : z = (r : Int) := by omega
      clear hz
      have q1 : decide ((0 : Int) ≤ (r : Int)) = true := by simp
      obtain ⟨Q, hQ⟩ : ∃ Q : Nat, Q = v / 2 ^ r := ⟨_, rfl⟩
      have hQv : Q ≤ v := by rw [hQ]; exact Nat.div_le_self _ _
      have s1 : (v : Int) / 2 ^ r = (Q : Int) := by rw [hQ]; simp
      have s2 : wrap64 (Q : Int) = (Q : Int) := by unfold wrap64; omega
      have s3 := and1_big (y := Q) (by omega)
      obtain ⟨b, hb⟩ : ∃ b : Nat, b = Q % 2 := ⟨_, rfl⟩
      have hb2 : b < 2 := by omega
      rw [← hb] at s3
      have hn' := snk_len Hs.out
      have hDl : D.length ≤ 11 := by
        have := congrArg List.length Hd.out
        rw [List.length_append, Wd.wb_len, Wd.wb_len] at this
        omega
      rw [List.length_append] at hn'
      have N := Lib.hid (sbit_any Hs.out (by omega) hb2)
      have hd := Hd.out
      rw [Wd.wb, ← hQ, ← hb, show b :: Wd.wb v r = [b] ++ Wd.wb v r from rfl, ← List.append_assoc] at hd
      have Hd2 := Lib.hid hd
      clear hQ hQv hd hb hn' hDl
      set_option maxRecDepth 4000 in
      go_wp2_with fail
      refine N.out.mono ?_
      rintro e w1 ⟨rfl, ⟨A1, n1, c1, hs1⟩, hb1⟩
      have Hs1 := Lib.hid hs1
      have Hb1 := Lib.hid (Hb.out.trans hb1)
      clear hs1 hb1 N
      go_wp2_with fail
      go_roundw
      case rel => exact ⟨(r : Int) - 1, r, D ++ [b], by go_num, rfl, by omega, Hd2.out, ⟨A1, n1, c1, by rw [← List.append_assoc, List.foldl_append]; exact Hs1.out⟩, Hb1.out⟩
      case measure => simp [intOf]
end Go.Proofs.Ytnkgcibdibgmjaa
