/- The document's DecodeCrown and Blank. -/
import Derived.Test.YthdmghocfngfgaaRcm
import Derived.Test.YthdmghocfngfgaaCdec
namespace Go.Proofs.Ythdmghocfngfgaa
open Go.RowKit Crc

theorem rcells {W : World} {b : Nat} {c : Cn.C} (h : Blk W b 26 (crC c)) : W.cell? ⟨b, 0, none⟩ = some (.int .i64 c.gen) ∧ W.cell? ⟨b, 1, none⟩ = some (.int .i64 c.bl) ∧ W.cell? ⟨b, 2, none⟩ = some (.int .i64 c.se) ∧ W.cell? ⟨b, 3, none⟩ = some (.float .f64 c.gain) ∧ W.cell? ⟨b, 4, none⟩ = some (.int .i64 c.at_) ∧ W.cell? ⟨b, 5, none⟩ = some (.int .i64 c.n) ∧ W.cell? ⟨b, 6, none⟩ = some (.int .i64 c.kg) ∧ W.cell? ⟨b, 7, none⟩ = some (.int .i64 c.ht) :=
  ⟨h.cell 0, h.cell 1, h.cell 2, h.cell 3, h.cell 4, h.cell 5, h.cell 6, h.cell 7⟩
theorem rfroz {W : World} {b : Nat} {c : Cn.C} (h : Blk W b 26 (crC c)) : W.frozen? ⟨b, 0, none⟩ = false ∧ W.frozen? ⟨b, 1, none⟩ = false ∧ W.frozen? ⟨b, 2, none⟩ = false ∧ W.frozen? ⟨b, 3, none⟩ = false ∧ W.frozen? ⟨b, 4, none⟩ = false ∧ W.frozen? ⟨b, 5, none⟩ = false ∧ W.frozen? ⟨b, 6, none⟩ = false ∧ W.frozen? ⟨b, 7, none⟩ = false :=
  ⟨h.frozen 0, h.frozen 1, h.frozen 2, h.frozen 3, h.frozen 4, h.frozen 5, h.frozen 6, h.frozen 7⟩

theorem rcr_put {V : World} {b : Nat} {c : Cn.C} (h : Blk V b 26 (crC c)) (d : Cn.C) : ∃ V2, ((((((((V.setCell ⟨b, 0, none⟩ (.int .i64 d.gen)).setCell ⟨b, 1, none⟩ (.int .i64 d.bl)).setCell ⟨b, 2, none⟩ (.int .i64 d.se)).setCell ⟨b, 3, none⟩ (.float .f64 d.gain)).setCell ⟨b, 4, none⟩ (.int .i64 d.at_)).setCell ⟨b, 5, none⟩ (.int .i64 d.n)).setCell ⟨b, 6, none⟩ (.int .i64 d.kg)).setCell ⟨b, 7, none⟩ (.int .i64 d.ht)) = V2 ∧ Blk V2 b 26 (crC d) ∧ ∀ B, B ≤ b → Below B V V2 := by
  have e : V.setCells b 0 (crC d).toList = ((((((((V.setCell ⟨b, 0, none⟩ (.int .i64 d.gen)).setCell ⟨b, 1, none⟩ (.int .i64 d.bl)).setCell ⟨b, 2, none⟩ (.int .i64 d.se)).setCell ⟨b, 3, none⟩ (.float .f64 d.gain)).setCell ⟨b, 4, none⟩ (.int .i64 d.at_)).setCell ⟨b, 5, none⟩ (.int .i64 d.n)).setCell ⟨b, 6, none⟩ (.int .i64 d.kg)).setCell ⟨b, 7, none⟩ (.int .i64 d.ht)) := rfl
  refine ⟨_, rfl, ?_, fun B hB => ?_⟩
  · have := (store_blk (W := V) (cs := crC c) (ds := crC d) rfl h (fun u hu => by
      simp only [crC, List.mem_cons, List.not_mem_nil, or_false] at hu
      rcases hu with rfl | rfl | rfl | rfl | rfl | rfl | rfl | rfl <;> rfl)).2
    rw [e] at this
    exact this
  · rw [← e]
    exact below_cells _ _ _ hB
/-- Decode half way: the result's block. -/
structure Rde (w W : World) (r : Nat) : Prop where
  res : Blk W r 26 (crC zeroC)
  bel : Below w.heap.size w W
  hr : w.heap.size ≤ r
/-- The same, with the crown that was read. -/
structure Rde2 (w W : World) (r q : Nat) (c : Cn.C) : Prop where
  de : Rde w W r
  box : Blk W q 26 (crC c)
  ne : q ≠ r
theorem Rde.drew {w W : World} {r : Nat} (h : Rde w W r) : Rde w W.drew r := ⟨h.res, h.bel.drew, h.hr⟩
theorem Rde.below {w W W' : World} {r : Nat} (h : Rde w W r) (hb : Below W.heap.size W W') : Rde w W' r := ⟨h.res.keep (hb.block _ h.res.lt), h.bel.trans (hb.mono h.bel.size), h.hr⟩
theorem Rde2.below {w W W' : World} {r q : Nat} {c : Cn.C} (h : Rde2 w W r q c) (hb : Below W.heap.size W W') : Rde2 w W' r q c := ⟨h.de.below hb, h.box.keep (hb.block _ h.box.lt), h.ne⟩
theorem Rde.new (w : World) : Rde w (w.alloc (.cells (crC zeroC) 26)) w.heap.size := ⟨Blk.new _ _ _, (Below.refl _ _).alloc (Nat.le_refl _) _, Nat.le_refl _⟩
theorem Rde.put {w W : World} {r : Nat} (h : Rde w W r) (c : Cn.C) : Rde2 w (W.alloc (.cells (crC c) 26)) r W.heap.size c :=
  ⟨h.below ((Below.refl _ _).alloc (Nat.le_refl _) _), Blk.new _ _ _, by have := h.res.lt; omega⟩

set_option maxHeartbeats 2000000 in
theorem rdec_len (A : Option Addr) (cap : Nat) (l : List Nat) (h : l.length ≠ 64) (n : Nat) (hn : n = l.length) (w : World) :
    Calls Try.prog 18 #[.slice A n cap] w (DecR l w) := by
  have e : Cn.decE l = 1 := by unfold Cn.decE; rw [if_pos h]
  unfold DecR
  rw [e, if_neg (by decide)]
  have p1 : ((n : Int) != 64) = true := by simp; omega
  have p2 : (n != 64) = true := by simp; omega
  have hd := Rde.new w
  obtain ⟨V2, hV2, hk2, hb2⟩ := rcr_put hd.res zeroC
  obtain ⟨W, hW⟩ : ∃ W, w.alloc (.cells (crC zeroC) 26) = W := ⟨_, rfl⟩
  rw [hW] at hd hV2 hb2
  have Fin := Lib.hid (hd.bel.trans (hb2 _ (Nat.le_refl _)))
  obtain ⟨v0, v1, v2, v3, v4, v5, v6, v7⟩ := rcells hd.res
  obtain ⟨t0, t1, t2, t3, t4, t5, t6, t7⟩ := rfroz hd.res
  obtain ⟨y0, y1, y2, y3, y4, y5, y6, y7⟩ := rcells hk2
  simp only [crC, zeroC] at hW hV2 v0 v1 v2 v3 v4 v5 v6 v7 y0 y1 y2 y3 y4 y5 y6 y7
  have hsf := store_float
  clear e h hn hk2 hb2 hd
  go_enter Try.func18, Try.ntmps18
  go_wp2_with fail
  refine bodyPost_ret (v := .tuple #[.agg #[.int .i64 0, .int .i64 0, .int .i64 0, .float .f64 0, .int .i64 0, .int .i64 0, .int .i64 0, .int .i64 0], .int .i64 1]) ?_ rfl ⟨rfl, Fin.out⟩
  simp [results, Try.results18]
  go_simp
theorem Rde2.gain {w W : World} {r q : Nat} {c : Cn.C} (h : Rde2 w W r q c) (hq : w.heap.size ≤ q) (x : Nat) : Rde2 w (W.setCell ⟨q, 3, none⟩ (.float .f64 x)) r q ⟨c.gen, c.bl, c.se, x, c.at_, c.n, c.kg, c.ht⟩ :=
  ⟨⟨h.de.res.far (p := ⟨q, 3, none⟩) h.ne _, h.de.bel.setCell hq _, h.de.hr⟩, h.box.set_ 3 (.float .f64 x), h.ne⟩
theorem g8_down {y0 y1 y2 y3 y4 y5 y6 y7 : Nat} (h0 : y0 < 256) (h1 : y1 < 256) (h2 : y2 < 256) (h3 : y3 < 256) (h4 : y4 < 256) (h5 : y5 < 256) (h6 : y6 < 256) (h7 : y7 < 256) :
    ∃ G6 G5 G4 G3 G2 G1 G0 : Nat, G0 = y0 + y1 * 256 + y2 * 65536 + y3 * 16777216 + (y4 + y5 * 256 + y6 * 65536 + y7 * 16777216) * 4294967296 ∧
    bits BinOp.or IntKind.u64 0 (y7 : Int) = (y7 : Int) ∧ bits BinOp.or IntKind.u64 ((y7 : Int) * 256) (y6 : Int) = (G6 : Int) ∧ G6 < 65536 ∧ bits BinOp.or IntKind.u64 ((G6 : Int) * 256) (y5 : Int) = (G5 : Int) ∧ G5 < 16777216 ∧ bits BinOp.or IntKind.u64 ((G5 : Int) * 256) (y4 : Int) = (G4 : Int) ∧ G4 < 4294967296 ∧ bits BinOp.or IntKind.u64 ((G4 : Int) * 256) (y3 : Int) = (G3 : Int) ∧ G3 < 1099511627776 ∧ bits BinOp.or IntKind.u64 ((G3 : Int) * 256) (y2 : Int) = (G2 : Int) ∧ G2 < 281474976710656 ∧ bits BinOp.or IntKind.u64 ((G2 : Int) * 256) (y1 : Int) = (G1 : Int) ∧ G1 < 72057594037927936 ∧ bits BinOp.or IntKind.u64 ((G1 : Int) * 256) (y0 : Int) = (G0 : Int) := by
  have or1 : ∀ a b : Nat, a < 72057594037927936 → b < 256 → bits BinOp.or IntKind.u64 ((a : Int) * 256) (b : Int) = ((a * 256 + b : Nat) : Int) := fun a b ha hb => by
    have e : (a : Int) * 256 = ((a * 256 : Nat) : Int) := by simp
    rw [e, u64_or_nat _ _ (by omega) (by omega)]
    congr 1
    exact nat_join 8 (a * 256) b (by omega) hb
  refine ⟨y7 * 256 + y6, (y7 * 256 + y6) * 256 + y5, ((y7 * 256 + y6) * 256 + y5) * 256 + y4, (((y7 * 256 + y6) * 256 + y5) * 256 + y4) * 256 + y3, ((((y7 * 256 + y6) * 256 + y5) * 256 + y4) * 256 + y3) * 256 + y2, (((((y7 * 256 + y6) * 256 + y5) * 256 + y4) * 256 + y3) * 256 + y2) * 256 + y1, ((((((y7 * 256 + y6) * 256 + y5) * 256 + y4) * 256 + y3) * 256 + y2) * 256 + y1) * 256 + y0, by omega, ?_, or1 _ _ (by omega) h6, by omega, or1 _ _ (by omega) h5, by omega, or1 _ _ (by omega) h4, by omega, or1 _ _ (by omega) h3, by omega, or1 _ _ (by omega) h2, by omega, or1 _ _ (by omega) h1, by omega, or1 _ _ (by omega) h0⟩
  have := u64_or_nat 0 y7 (by decide) (by omega)
  simpa using this

set_option maxHeartbeats 1000000 in
theorem rblank_any (A : Option Addr) (cap : Nat) (l : List Nat) (hl : ∀ x ∈ l, x < 256) (n : Nat) (hn : n = l.length) (hlen : n ≤ 9223372036854775807) {w : World} {B : Nat} (hsl : Sl w B A (byts l)) :
    Calls Try.prog 20 #[.slice A n cap] w fun e w' => e = .returned (.bool (Cn.blank l)) ∧ w' = w := by
  have HN := Lib.hid hn
  have Hc := Lib.hid (fun k (hk : k < l.length) => sl_cell hsl hk)
  have Hno := Lib.hid (fun k (hk : k < l.length) h => show Cn.blank l = false by unfold Cn.blank; rw [blank_no (l := l) hk h, Bool.and_false])
  have Hne := Lib.hid (fun k (hk : k < l.length) => blank_take (l := l) hk)
  have Hall := Lib.hid (List.take_length (l := l))
  have Hb : Hid (blankB l = true → Cn.blank l = decide (n = 64)) := Lib.hid (fun h => by unfold Cn.blank; rw [h, Bool.and_true, hn])
  clear hsl hn
  go_enter Try.func20, Try.ntmps20
  go_wp2_with fail
  go_loop [3] (fun i => ∃ k : Nat, k ≤ n ∧ i = .int .i64 k ∧ blankB (l.take k) = true) (fun i => n - (intOf i).toNat)
  case atStart => exact ⟨0, Nat.zero_le _, rfl, rfl⟩
  case round =>
    obtain ⟨k, hk, rfl, hb⟩ := hrel
    have HB := Lib.hid hb
    clear hb
    by_cases hlt : k < n
    · have q3 : decide (k < n) = true := by simpa using hlt
      have hkl : k < l.length := by rw [← HN.out]; exact hlt
      obtain ⟨b, o, rfl, cx⟩ := Hc.out k hkl
      have hx := getB_lt hl k
      have hne := Lib.hid (Hne.out k hkl)
      have hno := Lib.hid (Hno.out k hkl)
      clear Hc Hno Hne hkl Hall hl
      generalize l.getD k 0 = x at *
      by_cases h0 : x = 0
      · subst h0
        go_wp2_with fail
        go_round
        case rel => exact ⟨k + 1, by omega, by go_num, by rw [hne.out, HB.out]; rfl⟩
        case measure => simp [intOf]; omega
      · have p1 : ((x : Int) != 0) = true := by simp; omega
        have p2 : (x != 0) = true := by simp; omega
        go_wp2_with fail
        go_ret
        exact ⟨by rw [hno.out h0]; rfl, rfl⟩
    · have hkn : k = n := by omega
      have hfin : Cn.blank l = decide (n = 64) := Hb.out (by have := HB.out; rw [hkn, HN.out, Hall.out] at this; exact this)
      have hf := Lib.hid hfin
      subst hkn
      have q3 : decide (k < k) = false := by simp
      obtain ⟨q, hq⟩ : ∃ q, decide (k = 64) = q := ⟨_, rfl⟩
      have q4 : ((k : Int) == 64) = q := by rw [← hq, Bool.eq_iff_iff]; simp; omega
      have q5 : (k == 64) = q := by rw [← hq, Bool.eq_iff_iff]; simp
      rw [hq] at hf
      clear hq hfin
      go_wp2_with fail
      go_ret
      exact ⟨by rw [hf.out]; rfl, rfl⟩

end Go.Proofs.Ythdmghocfngfgaa
