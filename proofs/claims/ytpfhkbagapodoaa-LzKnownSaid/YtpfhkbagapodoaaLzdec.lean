/- The program's repeat and decode. -/
import Derived.Test.YtpfhkbagapodoaaLzseq
import Derived.Test.YtpfhkbagapodoaaRlz2
namespace Go.Proofs.Ytpfhkbagapodoaa
open Go.RowKit

theorem chg_below {F : Nat → Prop} {W w w' : World} (h : Chg F W w) (hb : Below W.heap.size w w') : Chg F W w' :=
  ⟨hb.os.trans h.os, hb.tape.trans h.tape, hb.output.trans h.output, Nat.le_trans h.size hb.size, fun b hlt hF => (hb.block b hlt).trans (h.block b hlt hF)⟩
abbrev OwnB (w : World) (B : Nat) (A : Option Addr) (n c : Nat) (l : List Nat) : Prop := w.ownsRow B 5 1 (.slice A n c) n (byts l)
section
variable {w w' : World} {B n c : Nat} {A : Option Addr} {l : List Nat}
theorem ownB_len (h : OwnB w B A n c l) : l.length = n := by
  have := h.1
  rw [byts_length] at this
  omega
theorem ownB_app (h : OwnB w B A n c l) (hB : B ≤ w.heap.size) {v' : Value} {m n' : Nat} {r : List Nat} (hr : r.length = m) (hn : n + m = n') (h1 : w'.ownsRow B 5 1 v' (n + (byts r).length) (byts l ++ byts r)) (h2 : w.grownBy w' (Value.slice A n c).ownBlock) :
    ∃ A' c', v' = .slice A' n' c' ∧ OwnB w' B A' n' c' (l ++ r) ∧ Below B w w' := by
  rw [byts_length, hr, hn, byts_join] at h1
  obtain ⟨A', c', rfl⟩ := own_slice h1
  exact ⟨A', c', rfl, h1, (Below.refl B w).grown h2 hB fun g hg => (h.lt g hg).1⟩
end

set_option maxRecDepth 4000 in
set_option maxHeartbeats 4000000 in
theorem repeat_any {w : World} {B n c : Nat} {A : Option Addr} {o : List Nat} (h : OwnB w B A n c o) (hB : B ≤ w.heap.size) (ho : ∀ x ∈ o, x < 256) (back size : Nat) (zb zs : Int) (hzb : zb = (back : Int)) (hzs : zs = (size : Int)) (h0 : 0 < back) (hbn : back ≤ n) (hs : n + size ≤ 100000) :
    Calls Try.prog 24 #[.slice A n c, .int .i64 zb, .int .i64 zs] w fun e w' => ∃ A' c', e = .returned (.slice A' (n + size) c') ∧ OwnB w' B A' (n + size) c' (Lz.copyB o back size) ∧ Below B w w' := by
  subst hzb; subst hzs
  obtain ⟨i0, hi0, hz0, hs0, hb0⟩ := byte_parts (P := Try.prog) (e := 5) (by kernel_rfl)
  have H := Lib.hid h
  have Hlo := Lib.hid (ownB_len h)
  have Ho := Lib.hid ho
  clear h ho
  go_enter Try.func24, Try.ntmps24
  go_wp2_with fail
  go_loopw [0, 8] (fun v i wr => ∃ (k : Nat) (A' : Option Addr) (c' : Nat), k ≤ size ∧ i = .int .i64 k ∧ v = .slice A' (n + k) c' ∧ OwnB wr B A' (n + k) c' (Lz.copyB o back k) ∧ Below B w wr) (fun _ i _ => size - (intOf i).toNat)
  case atStart => exact ⟨0, A, c, Nat.zero_le _, rfl, rfl, H.out, Below.refl _ _⟩
  case round =>
    obtain ⟨k, A5, c5, hk, rfl, rfl, hm5, hb5⟩ := hrel
    have M5 := Lib.hid hm5
    have B5 := Lib.hid hb5
    have hwB : B ≤ wr.heap.size := Nat.le_trans hB hb5.size
    by_cases hkm : k < size
    · have q9 : decide ((k : Int) < (size : Int)) = true := by rw [decide_eq_true_eq]; omega
      have q9' : decide (k < size) = true := by rw [decide_eq_true_eq]; omega
      have hlen5 := ownB_len hm5
      obtain ⟨ix, hix⟩ : ∃ ix : Nat, ix = n + k - back := ⟨_, rfl⟩
      have hixi : (n : Int) + (k : Int) - (back : Int) = (ix : Int) := by omega
      have hixb : ix < n + k := by omega
      obtain ⟨b5, o5, rfl, c5x⟩ := sl_cell (Sl.of_own hm5) (k := ix) (by omega)
      have hn5 := Lib.hid (Lz.copyB_next back k o)
      rw [hlen5, ← hix] at hn5
      have hx5 := getB_lt (Lz.copyB_lt (back := back) (k := k) Ho.out) ix
      obtain ⟨X, hX⟩ : ∃ X, X = Lz.copyB o back k := ⟨_, rfl⟩
      rw [← hX] at hn5 M5 c5x hx5
      have HX := Lib.hid hX
      clear hX hm5 hlen5 hb5
      generalize hy : X.getD ix 0 = y at *
      have hal : Below wr.heap.size wr (wr.alloc (.cells #[.int .u8 (y : Int)] 5)) := (Below.refl _ _).alloc (Nat.le_refl _) _
      have Mz := Lib.hid (show OwnB (wr.alloc (.cells #[.int .u8 (y : Int)] 5)) B (some ⟨b5, o5, none⟩) (n + k) c5 X from own_keep M5.out fun b _ hlt => hal.block b hlt)
      have Bz := Lib.hid (B5.out.trans (hal.mono hwB))
      have Sz := Lib.hid (sl_cells (w := wr) (cs := #[.int .u8 (y : Int)]) (l := [y]) rfl)
      have hwB2 : B ≤ (wr.alloc (.cells #[.int .u8 (y : Int)] 5)).heap.size := Nat.le_trans hwB hal.size
      have Hix := Lib.hid hix
      clear hy M5 hix hal B5
      go_wp2_with (at_builtin; refine wpList_append_sl (base := B) _ rfl (.tmp 10) (.tmp 18) _ rfl Try.underlying22 hi0 hz0 hs0 hb0 rfl rfl Mz.out rfl (byts_length [y]).symm (by simp) Sz.out (byts_one _) (by rw [byts_length]; exact Nat.le_refl _) (by rw [byts_length]; unfold maxLen; simp; omega) (by rw [byts_length]; simp; omega) hwB2 ?_; intro v6 w6 h1 h2 _; obtain ⟨A6, c6, rfl, m6, b6⟩ := ownB_app Mz.out hwB2 (r := [y]) rfl (show n + k + 1 = n + (k + 1) from rfl) h1 h2; have M6 := Lib.hid m6; have B6 := Lib.hid (Bz.out.trans b6); clear h1 h2 m6 b6)
      go_roundw
      case rel => exact ⟨k + 1, A6, c6, by omega, by go_num, rfl, by rw [hn5.out]; exact M6.out, B6.out⟩
      case measure => simp [intOf]; omega
    · have hkm4 : k = size := by omega
      have q9 : decide ((k : Int) < (size : Int)) = false := by rw [decide_eq_false_iff_not]; omega
      have q9' : decide (k < size) = false := by rw [decide_eq_false_iff_not]; omega
      subst hkm4
      clear hm5 hkm hb5
      go_wp2_with fail
      go_ret
      exact ⟨A5, c5, rfl, M5.out, B5.out⟩

/-- How decode ends. -/
def DecR (R : List Nat × Nat) (S : Nat) (W : World) (e : Ending) (w' : World) : Prop :=
  ChS S W w' ∧ ((∃ A c, e = .returned (.tuple #[.slice A R.1.length c, .int .i64 (R.2 : Int)]) ∧ OwnB w' W.heap.size A R.1.length c R.1 ∧ (∀ x ∈ R.1, x < 256) ∧ R.1.length ≤ 1000000) ∨ (e = errShort ∧ R = ([], 2)))
theorem decR_no {R : List Nat × Nat} {S E : Nat} {w w' : World} (h : R = ([], E)) (hb : ChS S w w') : DecR R S w (.returned (.tuple #[.slice none 0 0, .int .i64 (E : Int)])) w' := by
  subst h
  exact ⟨hb, .inl ⟨none, 0, rfl, World.ownsRow_nil _ _ _ _, by simp, by simp⟩⟩
theorem decR_ok {R : List Nat × Nat} {S : Nat} {w w' : World} {o : List Nat} {A : Option Addr} {n c : Nat} (h : R = (o, 0)) (hm : OwnB w' w.heap.size A n c o) (hl : ∀ x ∈ o, x < 256) (hn : n ≤ 1000000) (hb : ChS S w w') : DecR R S w (.returned (.tuple #[.slice A n c, .int .i64 0])) w' := by
  subst h
  have hlen := ownB_len hm
  subst hlen
  exact ⟨hb, .inl ⟨A, c, rfl, hm, hl, hn⟩⟩

/-- Between two sequences. -/
structure Dec (W wr : World) (B S n : Nat) (R : List Nat × Nat) (f : Nat) (l o : List Nat) (A : Option Addr) (m c : Nat) : Prop where
  src : Src wr B S l
  own : OwnB wr W.heap.size A m c o
  lt : ∀ x ∈ o, x < 256
  chg : ChS S W wr
  mn : m ≤ n
  fuel : l.length ≤ f
  is : Lz.unp n f l o = R

/-- A sequence has been taken (its variable is block G), its literals are not yet appended, or are (o and the row tell). -/
structure Mid (W w : World) (B S G : Nat) (A1 : Option Addr) (L c1 : Nat) (last : Bool) (back T : Int) (ls rest o : List Nat) (A : Option Addr) (m c : Nat) : Prop where
  src : Src w B S rest
  own : OwnB w W.heap.size A m c o
  lits : Sl w B A1 (byts ls)
  cells : Blk w G 52 #[.slice A1 L c1, .bool last, .int .i64 back, .int .i64 T]
  far : (Value.slice A m c).ownBlock ≠ some G
  hG : W.heap.size ≤ G
  hS : S < W.heap.size
  chg : ChS S W w
section
variable {W w w' : World} {B S G L c1 m c : Nat} {A1 A : Option Addr} {last : Bool} {back T : Int} {ls rest o : List Nat}
theorem Mid.c0 (h : Mid W w B S G A1 L c1 last back T ls rest o A m c) : w.cell? ⟨G, 0, none⟩ = some (.slice A1 L c1) := h.cells.cell 0
theorem Mid.c1' (h : Mid W w B S G A1 L c1 last back T ls rest o A m c) : w.cell? ⟨G, 1, none⟩ = some (.bool last) := h.cells.cell 1
theorem Mid.c2 (h : Mid W w B S G A1 L c1 last back T ls rest o A m c) : w.cell? ⟨G, 2, none⟩ = some (.int .i64 back) := h.cells.cell 2
theorem Mid.c3 (h : Mid W w B S G A1 L c1 last back T ls rest o A m c) : w.cell? ⟨G, 3, none⟩ = some (.int .i64 T) := h.cells.cell 3
theorem mid_of {wr w1 w2 : World} {n f : Nat} {R : List Nat × Nat} {l : List Nat} (D : Dec W wr B S n R f l o A m c) (hS : S < W.heap.size) (hsl : Sl w1 B A1 (byts ls)) (hs : Src w1 B S rest) (hc : ChS S wr w1) (hG : w1.heap.size = G)
    (h2 : w2 = w1.alloc (.cells #[.slice A1 L c1, .bool last, .int .i64 back, .int .i64 T] 52)) : Mid W w2 B S G A1 L c1 last back T ls rest o A m c := by
  subst h2; subst hG
  have h1 : S < w1.heap.size := hs.lt_heap
  have hal : Below w1.heap.size w1 (w1.alloc (.cells #[.slice A1 L c1, .bool last, .int .i64 back, .int .i64 T] 52)) := (Below.refl _ _).alloc (Nat.le_refl _) _
  have hB : B ≤ w1.heap.size := Nat.le_trans hs.bS (Nat.le_of_lt h1)
  have hsz := D.chg.size
  have hsz1 := hc.size
  refine ⟨hs.keep (hal.block S h1) (hal.mono hB), own_keep D.own fun b hb hlt => ?_, hsl.below (hal.mono hB), Blk.new _ _ _, ?_, by omega, hS, (D.chg.then_ hc).alloc _⟩
  · rw [hal.block b (by omega)]
    exact hc.block b hlt (by have := (D.own.lt b hb).1; omega)
  · intro hk
    have := (D.own.lt _ hk).2
    omega
theorem mid_app (h : Mid W w B S G A1 L c1 last back T ls rest o A m c) {v' : Value} {K : Nat} (hL : ls.length = L) (hK : m + L = K) (h1 : w'.ownsRow W.heap.size 5 1 v' (m + (byts ls).length) (byts o ++ byts ls)) (h2 : w.grownBy w' (Value.slice A m c).ownBlock) (h3 : v'.ownBlock = (Value.slice A m c).ownBlock ∨ v'.ownBlock = some w.heap.size) :
    ∃ A' c', v' = .slice A' K c' ∧ Mid W w' B S G A1 L c1 last back T ls rest (o ++ ls) A' K c' := by
  have hW : W.heap.size ≤ w.heap.size := h.chg.size
  obtain ⟨A', c', rfl, ho, hb⟩ := ownB_app h.own hW hL hK h1 h2
  have hBW : B ≤ W.heap.size := Nat.le_trans h.src.bS (Nat.le_of_lt h.hS)
  refine ⟨A', c', rfl, h.src.keep (hb.block S h.hS) (hb.mono hBW), ho, h.lits.below (hb.mono hBW), h.cells.grown h2 h.far, ?_, h.hG, h.hS, h.chg.grown h2 fun k hk => .inr (h.own.lt k hk).1⟩
  rcases h3 with h3 | h3
  · rw [h3]; exact h.far
  · rw [h3]
    intro hk
    have := h.cells.lt
    injection hk with hk
    omega
end

set_option maxRecDepth 8000 in
set_option maxHeartbeats 8000000 in
theorem decode_any {W : World} {B S : Nat} {l : List Nat} (h : Src W B S l) (hSW : S < W.heap.size) (n : Nat) (hn : n ≤ 4096) :
    Calls Try.prog 17 #[.pointer (some ⟨S, 0, none⟩), .int .i64 (n : Int)] W (DecR (Lz.unp n l.length l []) S W) := by
  obtain ⟨i0, hi0, hz0, hs0, hb0⟩ := byte_parts (P := Try.prog) (e := 5) (by kernel_rfl)
  obtain ⟨w0, hmk, hown0, hgr0⟩ := run_make_own (P := Try.prog) W W.heap.size 22 5 i0 (.int .u8 0) 1 Try.underlying22 hi0 hz0 hs0 .i64 .i64 n (by rw [hb0]; omega) (by unfold maxLen; omega) (Nat.le_refl _)
  obtain ⟨R, hR⟩ : ∃ R, R = Lz.unp n l.length l [] := ⟨_, rfl⟩
  have hc0 : ChS S W w0 := (Chg.refl _ _).grown hgr0 (fun k hk => by simp at hk)
  have H0 := Lib.hid (show Dec W w0 B S n R l.length l [] (some ⟨W.heap.size, 0, none⟩) 0 n from
    ⟨h.keep (hgr0.block S hSW (by simp)) ((Below.refl B W).grown hgr0 (Nat.le_trans h.bS (Nat.le_of_lt hSW)) (fun k hk => by simp at hk)), hown0, by simp, hc0, Nat.zero_le _, Nat.le_refl _, hR.symm⟩)
  rw [← hR]
  clear hR hc0 hown0 hgr0 h
  go_enter Try.func17, Try.ntmps17
  go_wp2_with fail
  go_loopg [6] l.length (fun f v wr => ∃ (q o : List Nat) (A' : Option Addr) (m c' : Nat), v = .slice A' m c' ∧ Dec W wr B S n R f q o A' m c')
  case atStart => exact ⟨l, [], _, 0, n, rfl, H0.out⟩
  case round =>
    obtain ⟨q, o, A, m, c, rfl, hd⟩ := hrel
    have D := Lib.hid hd
    clear hd H0 hmk
    cases hnx : Lz.next q with
    | none =>
      have hr : R = ([], 2) := by
        rw [← D.out.is]
        cases gk with
        | zero =>
          have : q = [] := List.eq_nil_of_length_eq_zero (by have := D.out.fuel; omega)
          subst this; rfl
        | succ f => rw [Lz.unp_next, hnx]
      have HR := Lib.hid hr
      have N := Lib.hid (seq_no D.out.src hnx)
      clear hr hnx
      go_wp2_with fail
      refine N.out.mono ?_
      rintro e w1 ⟨rfl, hc1⟩
      go_wp2_with fail
      exact ⟨rfl, D.out.chg.then_ hc1, .inr ⟨rfl, HR.out⟩⟩
    | some pr =>
      obtain ⟨ls, mo⟩ := pr
      obtain ⟨f, rfl⟩ : ∃ f, gk = f + 1 := ⟨gk - 1, by
        have := D.out.fuel
        cases q with
        | nil => cases hnx
        | cons x q => rw [List.length_cons] at this; omega⟩
      cases mo with
      | none =>
        have N := Lib.hid (seq_last D.out.src hnx)
        have hr := D.out.is
        rw [Lz.unp_next, hnx] at hr
        simp only at hr
        have HR := Lib.hid hr
        have Hlt := Lib.hid (Lz.next_lt hnx D.out.src.lt)
        clear hr hnx
        go_wp2_with fail
        refine N.out.mono ?_
        rintro e w1 ⟨A1, c1, rfl, hlc, hA1, hsl1, hs1, hc1⟩
        obtain ⟨L, hL⟩ : ∃ L, L = ls.length := ⟨_, rfl⟩
        rw [← hL] at hlc ⊢
        have HL := Lib.hid hL
        clear hL
        go_upto_region 3 with fail
        have hL := HL.out
        generalize h2 : w1.alloc (.cells #[.slice A1 L c1, .bool true, .int .i64 0, .int .i64 0] 52) = w2 at *
        generalize hG : w1.heap.size = G at *
        have M := Lib.hid (mid_of (L := L) (c1 := c1) (last := true) (back := 0) (T := 0) D.out hSW hsl1 hs1 hc1 hG h2.symm)
        have hmn := D.out.mn
        have hlo := ownB_len D.out.own
        have hr := HR.out
        rw [hlo, ← hL] at hr
        have Hlo := Lib.hid hlo
        have HLs := Lib.hid hL.symm
        have Hlo2 := Lib.hid D.out.lt
        have Lq := Lib.hid (show (byts ls).length = L by rw [byts_length]; exact hL.symm)
        have x0 := M.out.c0
        have x1 := M.out.c1'
        have hsz2 : W.heap.size ≤ w2.heap.size := M.out.chg.size
        clear hsl1 hs1 hc1 h2 hlo hL D N HR
        by_cases hlong : n - m < L
        · rw [if_pos hlong] at hr
          have Hr := Lib.hid hr.symm
          have p4 : decide ((n : Int) - (m : Int) < (L : Int)) = true := by rw [decide_eq_true_eq]; omega
          clear hr
          go_wp2_with fail
          go_returns
          exact decR_no Hr.out M.out.chg
        rw [if_neg hlong] at hr
        have p4 : decide ((n : Int) - (m : Int) < (L : Int)) = false := by rw [decide_eq_false_iff_not]; omega
        obtain ⟨K, hK⟩ : ∃ K : Nat, K = m + L := ⟨_, rfl⟩
        rw [← hK] at hr
        have HK := Lib.hid hK
        have hKn : K ≤ n := by omega
        have hmK : m + L ≤ 4096 := by omega
        have Hbyt := Lib.hid (show ∀ x ∈ o ++ ls, x < 256 from fun x hx => by
          rcases List.mem_append.1 hx with h | h
          · exact Hlo2.out x h
          · exact Hlt.out x h)
        by_cases hsh : K < n
        · rw [if_pos hsh] at hr
          have Hr := Lib.hid hr.symm
          have p5 : decide ((K : Int) < (n : Int)) = true := by rw [decide_eq_true_eq]; omega
          have p5' : decide (K < n) = true := by simpa using hsh
          clear hr hK
          go_wp2_with (at_builtin; refine wpList_append_sl (base := W.heap.size) _ rfl (.tmp 20) (.tmp 22) _ rfl Try.underlying22 hi0 hz0 hs0 hb0 rfl rfl M.out.own rfl Lq.out.symm hA1 M.out.lits (byts_one _) (by rw [Lq.out]; omega) (by rw [Lq.out]; unfold maxLen; omega) (by rw [Lq.out]; omega) hsz2 ?_; intro v3 w3 h1 h2 h3; obtain ⟨A3, c3, rfl, m3⟩ := mid_app M.out HLs.out HK.out.symm h1 h2 h3; have M3 := Lib.hid m3; have y1 := M3.out.c1'; clear h1 h2 h3 m3)
          go_returns
          exact decR_no Hr.out M3.out.chg
        · rw [if_neg hsh] at hr
          have Hr := Lib.hid hr.symm
          have p5 : decide ((K : Int) < (n : Int)) = false := by rw [decide_eq_false_iff_not]; omega
          have p5' : decide (K < n) = false := by simpa using hsh
          clear hr hK
          go_wp2_with (at_builtin; refine wpList_append_sl (base := W.heap.size) _ rfl (.tmp 20) (.tmp 22) _ rfl Try.underlying22 hi0 hz0 hs0 hb0 rfl rfl M.out.own rfl Lq.out.symm hA1 M.out.lits (byts_one _) (by rw [Lq.out]; omega) (by rw [Lq.out]; unfold maxLen; omega) (by rw [Lq.out]; omega) hsz2 ?_; intro v3 w3 h1 h2 h3; obtain ⟨A3, c3, rfl, m3⟩ := mid_app M.out HLs.out HK.out.symm h1 h2 h3; have M3 := Lib.hid m3; have y1 := M3.out.c1'; clear h1 h2 h3 m3)
          go_returns
          exact decR_ok Hr.out M3.out.own Hbyt.out (by omega) M3.out.chg
      | some tr =>
        obtain ⟨back, many, q'⟩ := tr
        have N := Lib.hid (seq_more D.out.src hnx)
        have hr := D.out.is
        rw [Lz.unp_next, hnx] at hr
        simp only at hr
        have HR := Lib.hid hr
        have Hlt := Lib.hid (Lz.next_lt hnx D.out.src.lt)
        have hless := Lz.next_less hnx
        have hfu := D.out.fuel
        clear hr hnx
        generalize hT : many + 4 = T at *
        go_wp2_with fail
        refine N.out.mono ?_
        rintro e w1 ⟨A1, c1, rfl, hlc, hA1, hsl1, hs1, hc1⟩
        obtain ⟨L, hL⟩ : ∃ L, L = ls.length := ⟨_, rfl⟩
        obtain ⟨w2, h2⟩ : ∃ x, x = w1.alloc (.cells #[.slice A1 L c1, .bool false, .int .i64 (back : Int), .int .i64 (T : Int)] 52) := ⟨_, rfl⟩
        have e2 : w1.alloc (.cells #[.slice A1 L c1, .bool false, .int .i64 (back : Int), .int .i64 (T : Int)] 52) = w2 := h2.symm
        generalize hG : w1.heap.size = G at *
        have M := Lib.hid (mid_of (L := L) (c1 := c1) (last := false) (back := (back : Int)) (T := (T : Int)) D.out hSW hsl1 hs1 hc1 hG h2)
        have hmn := D.out.mn
        have hlo := ownB_len D.out.own
        have hr := HR.out
        rw [hlo, ← hL] at hr
        rw [← hL] at hlc ⊢
        have Hlo := Lib.hid hlo
        have HLs := Lib.hid hL.symm
        have Hlo2 := Lib.hid D.out.lt
        have Lq := Lib.hid (show (byts ls).length = L by rw [byts_length]; exact hL.symm)
        have x0 := M.out.c0
        have x1 := M.out.c1'
        have hsz2 : W.heap.size ≤ w2.heap.size := M.out.chg.size
        clear hsl1 hs1 hc1 h2 hlo hL D N HR
        by_cases hlong : n - m < L
        · rw [if_pos hlong] at hr
          have Hr := Lib.hid hr.symm
          have p4 : decide ((n : Int) - (m : Int) < (L : Int)) = true := by rw [decide_eq_true_eq]; omega
          clear hr
          go_wp2_with fail
          go_returns
          exact decR_no Hr.out M.out.chg
        rw [if_neg hlong] at hr
        have p4 : decide ((n : Int) - (m : Int) < (L : Int)) = false := by rw [decide_eq_false_iff_not]; omega
        obtain ⟨K, hK⟩ : ∃ K : Nat, K = m + L := ⟨_, rfl⟩
        rw [← hK] at hr
        have HK := Lib.hid hK
        have hKn : K ≤ n := by omega
        have hmK : m + L ≤ 4096 := by omega
        have Hbyt := Lib.hid (show ∀ x ∈ o ++ ls, x < 256 from fun x hx => by
          rcases List.mem_append.1 hx with h | h
          · exact Hlo2.out x h
          · exact Hlt.out x h)
        by_cases hform : back = 0 ∨ K < back
        · rw [if_pos hform] at hr
          have Hr := Lib.hid hr.symm
          clear hr hK
          rcases hform with h0 | h1
          · have p6 : ((back : Int) == 0) = true := by rw [beq_iff_eq]; omega
            have p6' : (back == 0) = true := by rw [beq_iff_eq]; omega
            clear h0
            go_wp2_with (at_builtin; refine wpList_append_sl (base := W.heap.size) _ rfl (.tmp 20) (.tmp 22) _ rfl Try.underlying22 hi0 hz0 hs0 hb0 rfl rfl M.out.own rfl Lq.out.symm hA1 M.out.lits (byts_one _) (by rw [Lq.out]; omega) (by rw [Lq.out]; unfold maxLen; omega) (by rw [Lq.out]; omega) hsz2 ?_; intro v3 w3 h1 h2 h3; obtain ⟨A3, c3, rfl, m3⟩ := mid_app M.out HLs.out HK.out.symm h1 h2 h3; have M3 := Lib.hid m3; have y1 := M3.out.c1'; have y2 := M3.out.c2; have y3 := M3.out.c3; clear h1 h2 h3 m3)
            go_returns
            exact decR_no Hr.out M3.out.chg
          · have p6 : ((back : Int) == 0) = false := by rw [beq_eq_false_iff_ne]; omega
            have p6' : (back == 0) = false := by rw [beq_eq_false_iff_ne]; omega
            have p7 : decide ((K : Int) < (back : Int)) = true := by rw [decide_eq_true_eq]; omega
            have p7' : decide (K < back) = true := by rw [decide_eq_true_eq]; omega
            clear h1
            go_wp2_with (at_builtin; refine wpList_append_sl (base := W.heap.size) _ rfl (.tmp 20) (.tmp 22) _ rfl Try.underlying22 hi0 hz0 hs0 hb0 rfl rfl M.out.own rfl Lq.out.symm hA1 M.out.lits (byts_one _) (by rw [Lq.out]; omega) (by rw [Lq.out]; unfold maxLen; omega) (by rw [Lq.out]; omega) hsz2 ?_; intro v3 w3 h1 h2 h3; obtain ⟨A3, c3, rfl, m3⟩ := mid_app M.out HLs.out HK.out.symm h1 h2 h3; have M3 := Lib.hid m3; have y1 := M3.out.c1'; have y2 := M3.out.c2; have y3 := M3.out.c3; clear h1 h2 h3 m3)
            go_returns
            exact decR_no Hr.out M3.out.chg
        rw [if_neg hform] at hr
        have hb0' : 0 < back := by omega
        have hbK : back ≤ K := by omega
        have p6 : ((back : Int) == 0) = false := by rw [beq_eq_false_iff_ne]; omega
        have p6' : (back == 0) = false := by rw [beq_eq_false_iff_ne]; omega
        have p7 : decide ((K : Int) < (back : Int)) = false := by rw [decide_eq_false_iff_not]; omega
        have p7' : decide (K < back) = false := by rw [decide_eq_false_iff_not]; omega
        by_cases hlong2 : n - K < T
        · rw [if_pos hlong2] at hr
          have Hr := Lib.hid hr.symm
          have p8 : decide ((n : Int) - (K : Int) < (T : Int)) = true := by rw [decide_eq_true_eq]; omega
          clear hr hK hform
          go_wp2_with (at_builtin; refine wpList_append_sl (base := W.heap.size) _ rfl (.tmp 20) (.tmp 22) _ rfl Try.underlying22 hi0 hz0 hs0 hb0 rfl rfl M.out.own rfl Lq.out.symm hA1 M.out.lits (byts_one _) (by rw [Lq.out]; omega) (by rw [Lq.out]; unfold maxLen; omega) (by rw [Lq.out]; omega) hsz2 ?_; intro v3 w3 h1 h2 h3; obtain ⟨A3, c3, rfl, m3⟩ := mid_app M.out HLs.out HK.out.symm h1 h2 h3; have M3 := Lib.hid m3; have y1 := M3.out.c1'; have y2 := M3.out.c2; have y3 := M3.out.c3; clear h1 h2 h3 m3)
          go_returns
          exact decR_no Hr.out M3.out.chg
        rw [if_neg hlong2] at hr
        have Hr := Lib.hid hr
        have p8 : decide ((n : Int) - (K : Int) < (T : Int)) = false := by rw [decide_eq_false_iff_not]; omega
        have hKT : K + T ≤ n := by omega
        clear hr hK hform
        go_wp2_with (at_builtin; refine wpList_append_sl (base := W.heap.size) _ rfl (.tmp 20) (.tmp 22) _ rfl Try.underlying22 hi0 hz0 hs0 hb0 rfl rfl M.out.own rfl Lq.out.symm hA1 M.out.lits (byts_one _) (by rw [Lq.out]; omega) (by rw [Lq.out]; unfold maxLen; omega) (by rw [Lq.out]; omega) hsz2 ?_; intro v3 w3 h1 h2 h3; obtain ⟨A3, c3, rfl, m3⟩ := mid_app M.out HLs.out HK.out.symm h1 h2 h3; have M3 := Lib.hid m3; have y1 := M3.out.c1'; have y2 := M3.out.c2; have y3 := M3.out.c3; clear h1 h2 h3 m3)
        have N3 := Lib.hid (repeat_any M3.out.own M3.out.chg.size Hbyt.out back T (back : Int) (T : Int) rfl rfl hb0' hbK (by omega))
        refine N3.out.mono ?_
        rintro e w4 ⟨A4, c4, rfl, ho4, hb4⟩
        go_wp2_with fail
        go_roundg f
        case rel => exact ⟨q', Lz.copyB (o ++ ls) back T, A4, K + T, c4, rfl, M3.out.src.keep (hb4.block S hSW) (hb4.mono (Nat.le_trans M3.out.src.bS (Nat.le_of_lt hSW))), ho4, fun x hx => Lz.copyB_lt Hbyt.out x hx, chg_below M3.out.chg hb4, by omega, by omega, Hr.out⟩
        case measure => omega
end Go.Proofs.Ytpfhkbagapodoaa
