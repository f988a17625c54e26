/- The program's fields, Decode and Blank. -/
import Derived.Test.YthdmghocfngfgaaCnum
import Derived.Test.YthdmghocfngfgaaCmay
import Derived.Test.YthdmghocfngfgaaCen
import Derived.Test.YthdmghocfngfgaaTal
import Derived.Test.YthdmghocfngfgaaStepm
namespace Go.Proofs.Ythdmghocfngfgaa
open Go.RowKit Crc

def zeroC : Cn.C := ⟨0, 0, 0, 0, 0, 0, 0, 0⟩
theorem crcells {W : World} {b : Nat} {c : Cn.C} (h : Blk W b 36 (crC c)) : W.cell? ⟨b, 0, none⟩ = some (.int .i64 c.gen) ∧ W.cell? ⟨b, 1, none⟩ = some (.int .i64 c.bl) ∧ W.cell? ⟨b, 2, none⟩ = some (.int .i64 c.se) ∧ W.cell? ⟨b, 3, none⟩ = some (.float .f64 c.gain) ∧ W.cell? ⟨b, 4, none⟩ = some (.int .i64 c.at_) ∧ W.cell? ⟨b, 5, none⟩ = some (.int .i64 c.n) ∧ W.cell? ⟨b, 6, none⟩ = some (.int .i64 c.kg) ∧ W.cell? ⟨b, 7, none⟩ = some (.int .i64 c.ht) :=
  ⟨h.cell 0, h.cell 1, h.cell 2, h.cell 3, h.cell 4, h.cell 5, h.cell 6, h.cell 7⟩
theorem crfroz {W : World} {b : Nat} {c : Cn.C} (h : Blk W b 36 (crC c)) : W.frozen? ⟨b, 0, none⟩ = false ∧ W.frozen? ⟨b, 1, none⟩ = false ∧ W.frozen? ⟨b, 2, none⟩ = false ∧ W.frozen? ⟨b, 3, none⟩ = false ∧ W.frozen? ⟨b, 4, none⟩ = false ∧ W.frozen? ⟨b, 5, none⟩ = false ∧ W.frozen? ⟨b, 6, none⟩ = false ∧ W.frozen? ⟨b, 7, none⟩ = false :=
  ⟨h.frozen 0, h.frozen 1, h.frozen 2, h.frozen 3, h.frozen 4, h.frozen 5, h.frozen 6, h.frozen 7⟩

theorem store_float (a : Addr) (x : Nat) (m : Mode) (W : World) : (store a (.float .f64 x) m).run Try.prog W = stored Try.prog W a (.float .f64 x) m := run_store Try.prog W a _ m rfl
theorem Blk.drew_ {W : World} {g : Nat} {t : TypeId} {cs : Array Value} (h : Blk W g t cs) : Blk W.drew g t cs := h
theorem cr_stored {W : World} {b : Nat} {c : Cn.C} (h : Blk W b 36 (crC c)) (d : Cn.C) : Blk (W.setCells b 0 (crC d).toList).drew b 36 (crC d) :=
  (store_blk (W := W) (cs := crC c) (ds := crC d) rfl h (fun u hu => by
    simp only [crC, List.mem_cons, List.not_mem_nil, or_false] at hu
    rcases hu with rfl | rfl | rfl | rfl | rfl | rfl | rfl | rfl <;> rfl)).2.drew_
theorem cutA_nat {A : Option Addr} {cap k : Nat} (h : k < cap) : cutA A cap k = A.map (·.add k) := by unfold cutA; rw [if_neg (by omega)]
set_option maxHeartbeats 4000000 in
theorem cfields_any (A : Option Addr) (cap : Nat) (l : List Nat) (hl : ∀ x ∈ l, x < 256) (h64 : l.length = 64) (hcap : 64 ≤ cap) {w : World} (hsl : Sl w w.heap.size A (byts l)) :
    Calls Try.prog 35 #[.slice A 64 cap] w fun e w' => e = .returned (crV (Cn.fields l)) ∧ Below w.heap.size w w' := by
  obtain ⟨i0, hi0, hz0, hs0, hb0⟩ := byte_parts (P := Try.prog) (e := 5) (by kernel_rfl)
  obtain ⟨b, o, rfl, _⟩ := sl_cell hsl (k := 0) (by omega)
  have hcut (j : Nat) (hj : j < 64) : cutA (some ⟨b, o, none⟩) cap j = some ⟨b, o + j, none⟩ := by rw [cutA_nat (by omega)]; simp [Addr.add_lit]
  have cut (j : Nat) (hj : j < 64) : ∀ w, (Instr.slice 28 (.slice (some ⟨b, o, none⟩) 64 cap) (some (.int .i64 (j : Int))) none none).run Try.prog w = .ok (.slice (some ⟨b, o + j, none⟩) (64 - j) (cap - j)) w := fun w => by
    rw [← hcut j hj]
    exact run_slice_from (P := Try.prog) Try.underlying28 hi0 hs0 (some ⟨b, o, none⟩) 64 cap j (by omega) w
  have num (j : Nat) (hj : j + 4 ≤ 64) (W : World) (hb : Below w.heap.size w W) : Calls Try.prog 42 #[.slice (some ⟨b, o + j, none⟩) (64 - j) (cap - j)] W fun e w' => e = .returned (.int .i64 ((g4 l j : Nat) : Int)) ∧ w' = W := by
    rw [← hcut j (by omega)]
    exact cnumber_any (cutA (some ⟨b, o, none⟩) cap j) (cap - j) (64 - j) l hl j (by omega) (by omega) (by omega) (B := W.heap.size) (by rw [← byts_drop]; exact (sl_keep hsl hb).from (by rw [byts_length]; omega))
  have c2 := cut 2 (by decide)
  have c6 := cut 6 (by decide)
  have c10 := cut 10 (by decide)
  have c14 := cut 14 (by decide)
  have c18 := cut 18 (by decide)
  have c22 := cut 22 (by decide)
  have c26 := cut 26 (by decide)
  have c30 : ∀ w, (Instr.slice 28 (.slice (some ⟨b, o, none⟩) 64 cap) (some (.int .i64 30)) (some (.int .i64 38)) none).run Try.prog w = .ok (.slice (some ⟨b, o + 30, none⟩) 8 (cap - 30)) w := fun w => by
    rw [← hcut 30 (by decide)]
    exact run_slice_mid (P := Try.prog) Try.underlying28 hi0 hs0 (some ⟨b, o, none⟩) 64 cap 30 38 (by omega) (by omega) w
  have n2 := Lib.hid (num 2 (by decide))
  have n6 := Lib.hid (num 6 (by decide))
  have n10 := Lib.hid (num 10 (by decide))
  have n14 := Lib.hid (num 14 (by decide))
  have n18 := Lib.hid (num 18 (by decide))
  have n22 := Lib.hid (num 22 (by decide))
  have n26 := Lib.hid (num 26 (by decide))
  have n30 : Hid (∀ (W : World), Below w.heap.size w W → Calls Try.prog 34 #[.slice (some ⟨b, o + 30, none⟩) 8 (cap - 30)] W fun e w' => e = .returned (.int .u64 ((Cn.g8 l 30 : Nat) : Int)) ∧ w' = W) := Lib.hid (fun W hb => by
    rw [← hcut 30 (by decide)]
    exact bits8_any (cutA (some ⟨b, o, none⟩) cap 30) (cap - 30) l hl 30 (by omega) (B := W.heap.size) (by rw [← byts_drop]; exact (sl_keep hsl hb).from (by rw [byts_length]; omega)))
  have hbits := fun W => run_frombits ((Cn.g8 l 30 : Nat) : Int) W
  rw [Int.toNat_natCast] at hbits
  have hc2 : ¬ cap = 2 := by omega
  have hc6 : ¬ cap = 6 := by omega
  have hc10 : ¬ cap = 10 := by omega
  have hc14 : ¬ cap = 14 := by omega
  have hc18 : ¬ cap = 18 := by omega
  have hc22 : ¬ cap = 22 := by omega
  have hc26 : ¬ cap = 26 := by omega
  have hc30 : ¬ cap = 30 := by omega
  simp only [Nat.reduceSub] at c2 c6 c10 c14 c18 c22 c26 c30 n2 n6 n10 n14 n18 n22 n26
  unfold Cn.fields crV
  simp only
  obtain ⟨x2, f2⟩ : ∃ a, g4 l 2 = a := ⟨_, rfl⟩
  obtain ⟨x6, f6⟩ : ∃ a, g4 l 6 = a := ⟨_, rfl⟩
  obtain ⟨x10, f10⟩ : ∃ a, g4 l 10 = a := ⟨_, rfl⟩
  obtain ⟨x14, f14⟩ : ∃ a, g4 l 14 = a := ⟨_, rfl⟩
  obtain ⟨x18, f18⟩ : ∃ a, g4 l 18 = a := ⟨_, rfl⟩
  obtain ⟨x22, f22⟩ : ∃ a, g4 l 22 = a := ⟨_, rfl⟩
  obtain ⟨x26, f26⟩ : ∃ a, g4 l 26 = a := ⟨_, rfl⟩
  obtain ⟨x30, f30⟩ : ∃ a, Cn.g8 l 30 = a := ⟨_, rfl⟩
  rw [f2] at n2
  rw [f6] at n6
  rw [f10] at n10
  rw [f14] at n14
  rw [f18] at n18
  rw [f22] at n22
  rw [f26] at n26
  rw [f30] at n30 hbits
  rw [f2, f6, f10, f14, f18, f22, f26, f30]
  obtain ⟨W, hW⟩ : ∃ W, w.alloc (.cells (crC zeroC) 36) = W := ⟨_, rfl⟩
  have hb : Below w.heap.size w W := by rw [← hW]; exact (Below.refl _ _).alloc (Nat.le_refl _) _
  have hk : Blk W w.heap.size 36 (crC zeroC) := by rw [← hW]; exact Blk.new _ _ _
  have HB := Lib.hid hb.drew
  obtain ⟨r, hr⟩ : ∃ r, w.heap.size = r := ⟨_, rfl⟩
  rw [hr] at hk
  have HT := Lib.hid (blk_there (w := W.drew) hk)
  have csz : (Try.prog.info? 36).map (·.size) = some 8 := by kernel_rfl
  obtain ⟨W2, hW2⟩ : ∃ W2, (W.setCells r 0 (crC (Cn.C.mk x2 x6 x10 x30 x14 x18 x22 x26)).toList).drew = W2 := ⟨_, rfl⟩
  have hk2 : Blk W2 r 36 (crC (Cn.C.mk x2 x6 x10 x30 x14 x18 x22 x26)) := by
    rw [← hW2]
    exact cr_stored hk _
  have hb2 : Below w.heap.size w W2 := by
    rw [← hW2]
    exact (hb.trans (below_cells _ _ _ (by rw [hr]; exact Nat.le_refl _))).drew
  obtain ⟨y0, y1, y2, y3, y4, y5, y6, y7⟩ := crcells hk2
  have HB2 := Lib.hid hb2
  simp only at y0 y1 y2 y3 y4 y5 y6 y7
  obtain ⟨u0, u1, u2, u3, u4, u5, u6, u7⟩ := crcells (W := W.drew) hk
  obtain ⟨z0, z1, z2, z3, z4, z5, z6, z7⟩ := crfroz (W := W.drew) hk
  obtain ⟨v0, v1, v2, v3, v4, v5, v6, v7⟩ := crcells hk
  obtain ⟨t0, t1, t2, t3, t4, t5, t6, t7⟩ := crfroz hk
  simp only [zeroC] at u0 u1 u2 u3 u4 u5 u6 u7 v0 v1 v2 v3 v4 v5 v6 v7
  simp only [crC, zeroC] at hW
  simp only [crC, World.setCells] at hW2
  clear hb hk hb2 hk2 cut num hcut f2 f6 f10 f14 f18 f22 f26 f30 hsl hl hi0 hz0 hs0 hb0 h64
  have hsf := store_float
  go_enter Try.func35, Try.ntmps35
  go_wp2_with fail
  go_region_law (first
    | (go_simp; go_at_call 42; (with_reducible refine (n2.out _ HB.out).mono ?_); rintro e w' ⟨rfl, hw'⟩; subst hw')
    | (go_simp; go_at_call 42; (with_reducible refine (n6.out _ HB.out).mono ?_); rintro e w' ⟨rfl, hw'⟩; subst hw')
    | (go_simp; go_at_call 42; (with_reducible refine (n10.out _ HB.out).mono ?_); rintro e w' ⟨rfl, hw'⟩; subst hw')
    | (go_simp; go_at_call 42; (with_reducible refine (n14.out _ HB.out).mono ?_); rintro e w' ⟨rfl, hw'⟩; subst hw')
    | (go_simp; go_at_call 42; (with_reducible refine (n18.out _ HB.out).mono ?_); rintro e w' ⟨rfl, hw'⟩; subst hw')
    | (go_simp; go_at_call 42; (with_reducible refine (n22.out _ HB.out).mono ?_); rintro e w' ⟨rfl, hw'⟩; subst hw')
    | (go_simp; go_at_call 42; (with_reducible refine (n26.out _ HB.out).mono ?_); rintro e w' ⟨rfl, hw'⟩; subst hw')
    | (go_simp; go_at_call 34; (with_reducible refine (n30.out _ HB.out).mono ?_); rintro e w' ⟨rfl, hw'⟩; subst hw'))
  clear u0 u1 u2 u3 u4 u5 u6 u7 v0 v1 v2 v3 v4 v5 v6 v7 z0 z1 z2 z3 z4 z5 z6 z7 t0 t1 t2 t3 t4 t5 t6 t7
  clear hW2
  go_wp2_with fail
  refine bodyPost_ret (v := .agg #[.int .i64 x2, .int .i64 x6, .int .i64 x10, .float .f64 x30, .int .i64 x14, .int .i64 x18, .int .i64 x22, .int .i64 x26]) ?_ rfl ⟨rfl, HB2.out⟩
  simp [results, Try.results35]
  go_simp
/-- How Decode ends. -/
def DecR (l : List Nat) (w : World) (e : Ending) (w' : World) : Prop := e = .returned (.tuple #[crV (if Cn.decE l = 0 then Cn.fields l else zeroC), .int .i64 ((Cn.decE l : Nat) : Int)]) ∧ Below w.heap.size w w'
theorem cr_put {V : World} {b : Nat} {c : Cn.C} (h : Blk V b 36 (crC c)) (d : Cn.C) : ∃ V2, ((((((((V.setCell ⟨b, 0, none⟩ (.int .i64 d.gen)).setCell ⟨b, 1, none⟩ (.int .i64 d.bl)).setCell ⟨b, 2, none⟩ (.int .i64 d.se)).setCell ⟨b, 3, none⟩ (.float .f64 d.gain)).setCell ⟨b, 4, none⟩ (.int .i64 d.at_)).setCell ⟨b, 5, none⟩ (.int .i64 d.n)).setCell ⟨b, 6, none⟩ (.int .i64 d.kg)).setCell ⟨b, 7, none⟩ (.int .i64 d.ht)) = V2 ∧ Blk V2 b 36 (crC d) ∧ ∀ B, B ≤ b → Below B V V2 := by
  have e : V.setCells b 0 (crC d).toList = ((((((((V.setCell ⟨b, 0, none⟩ (.int .i64 d.gen)).setCell ⟨b, 1, none⟩ (.int .i64 d.bl)).setCell ⟨b, 2, none⟩ (.int .i64 d.se)).setCell ⟨b, 3, none⟩ (.float .f64 d.gain)).setCell ⟨b, 4, none⟩ (.int .i64 d.at_)).setCell ⟨b, 5, none⟩ (.int .i64 d.n)).setCell ⟨b, 6, none⟩ (.int .i64 d.kg)).setCell ⟨b, 7, none⟩ (.int .i64 d.ht)) := rfl
  refine ⟨_, rfl, ?_, fun B hB => ?_⟩
  · have := (store_blk (W := V) (cs := crC c) (ds := crC d) rfl h (fun u hu => by
      simp only [crC, List.mem_cons, List.not_mem_nil, or_false] at hu
      rcases hu with rfl | rfl | rfl | rfl | rfl | rfl | rfl | rfl <;> rfl)).2
    rw [e] at this
    exact this
  · rw [← e]
    exact below_cells _ _ _ hB
/-- Decode half way: the result's block. -/
structure De (w W : World) (r : Nat) : Prop where
  res : Blk W r 36 (crC zeroC)
  bel : Below w.heap.size w W
  hr : w.heap.size ≤ r
/-- The same, with the crown that was read. -/
structure De2 (w W : World) (r q : Nat) (c : Cn.C) : Prop where
  de : De w W r
  box : Blk W q 36 (crC c)
  ne : q ≠ r
theorem De.drew {w W : World} {r : Nat} (h : De w W r) : De w W.drew r := ⟨h.res, h.bel.drew, h.hr⟩
theorem De.below {w W W' : World} {r : Nat} (h : De w W r) (hb : Below W.heap.size W W') : De w W' r := ⟨h.res.keep (hb.block _ h.res.lt), h.bel.trans (hb.mono h.bel.size), h.hr⟩
theorem De2.below {w W W' : World} {r q : Nat} {c : Cn.C} (h : De2 w W r q c) (hb : Below W.heap.size W W') : De2 w W' r q c := ⟨h.de.below hb, h.box.keep (hb.block _ h.box.lt), h.ne⟩
theorem De.new (w : World) : De w (w.alloc (.cells (crC zeroC) 36)) w.heap.size := ⟨Blk.new _ _ _, (Below.refl _ _).alloc (Nat.le_refl _) _, Nat.le_refl _⟩
theorem De.put {w W : World} {r : Nat} (h : De w W r) (c : Cn.C) : De2 w (W.alloc (.cells (crC c) 36)) r W.heap.size c :=
  ⟨h.below ((Below.refl _ _).alloc (Nat.le_refl _) _), Blk.new _ _ _, by have := h.res.lt; omega⟩

set_option maxHeartbeats 1000000 in
theorem cblank_any (A : Option Addr) (cap : Nat) (l : List Nat) (hl : ∀ x ∈ l, x < 256) (n : Nat) (hn : n = l.length) (hlen : n ≤ 9223372036854775807) {w : World} {B : Nat} (hsl : Sl w B A (byts l)) :
    Calls Try.prog 19 #[.slice A n cap] w fun e w' => e = .returned (.bool (Cn.blank l)) ∧ w' = w := by
  by_cases h : l.length = 64
  · have e : Cn.blank l = blankB l := by unfold Cn.blank; rw [decide_eq_true h]; rfl
    rw [e]
    have z := Lib.hid (iszero_any A cap l hl n hn hlen hsl)
    obtain rfl : n = 64 := by omega
    generalize blankB l = q at *
    clear e hsl hn
    go_enter Try.func19, Try.ntmps19
    go_wp2_with (go_at_call 36; (with_reducible refine z.out.mono ?_); rintro e w' ⟨rfl, hw'⟩; subst hw')
    go_ret
    exact ⟨rfl, rfl⟩
  · have e : Cn.blank l = false := by unfold Cn.blank; rw [decide_eq_false h]; rfl
    rw [e]
    have p1 : ((n : Int) == 64) = false := by simp; omega
    have p2 : (n == 64) = false := by simp; omega
    clear e hsl hn
    go_enter Try.func19, Try.ntmps19
    go_wp2_with fail
    go_ret
    exact ⟨rfl, rfl⟩

set_option maxHeartbeats 2000000 in
theorem cdec_len (A : Option Addr) (cap : Nat) (l : List Nat) (h : l.length ≠ 64) (n : Nat) (hn : n = l.length) (w : World) :
    Calls Try.prog 16 #[.slice A n cap] w (DecR l w) := by
  have e : Cn.decE l = 1 := by unfold Cn.decE; rw [if_pos h]
  unfold DecR
  rw [e, if_neg (by decide)]
  have p1 : ((n : Int) != 64) = true := by simp; omega
  have p2 : (n != 64) = true := by simp; omega
  have hd := De.new w
  obtain ⟨V2, hV2, hk2, hb2⟩ := cr_put hd.res zeroC
  obtain ⟨W, hW⟩ : ∃ W, w.alloc (.cells (crC zeroC) 36) = W := ⟨_, rfl⟩
  rw [hW] at hd hV2 hb2
  have Fin := Lib.hid (hd.bel.trans (hb2 _ (Nat.le_refl _)))
  obtain ⟨v0, v1, v2, v3, v4, v5, v6, v7⟩ := crcells hd.res
  obtain ⟨t0, t1, t2, t3, t4, t5, t6, t7⟩ := crfroz hd.res
  obtain ⟨y0, y1, y2, y3, y4, y5, y6, y7⟩ := crcells hk2
  simp only [crC, zeroC] at hW hV2 v0 v1 v2 v3 v4 v5 v6 v7 y0 y1 y2 y3 y4 y5 y6 y7
  have hsf := store_float
  clear e h hn hk2 hb2 hd
  go_enter Try.func16, Try.ntmps16
  go_wp2_with fail
  refine bodyPost_ret (v := .tuple #[.agg #[.int .i64 0, .int .i64 0, .int .i64 0, .float .f64 0, .int .i64 0, .int .i64 0, .int .i64 0, .int .i64 0], .int .i64 1]) ?_ rfl ⟨rfl, Fin.out⟩
  simp [results, Try.results16]
  go_simp
end Go.Proofs.Ythdmghocfngfgaa
