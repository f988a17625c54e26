/- The program's code: whether it may be decoded; the next word. The program's decode. The program's Unpack says what the bytes say. -/
import Derived.Test.YtnkgcibdibgmjaaWca
import Derived.Test.YtnkgcibdibgmjaaWsr
import Derived.Deep.LoopGhost
import Derived.Test.YtnkgcibdibgmjaaWc
import Derived.Defers
import Derived.LaidEql
namespace Go.Proofs.Ytnkgcibdibgmjaa
open Go.RowKit

section
variable {w w' : World} {B G S : Nat} {C : Array Value} {l : List Int}
theorem Code.keep (h : Code w B G C l) (hB : ∀ b, B ≤ b → b < w.heap.size → w'.heap[b]? = w.heap[b]?) : Code w' B G C l := ⟨h.cw.keep hB, h.first, h.sum⟩
theorem Code.chw (h : Code w B G C l) (hS : S < B) (hc : ChW S w w') : Code w' B G C l := h.keep fun b hb hlt => hc.block b hlt (by show b ≠ S; omega)
theorem Code.csum (h : Code w B G C l) : w.cell? ⟨G, 24, none⟩ = some (.int .i64 ((ksum l : Nat) : Int)) := by rw [h.cw.blk.cell, h.sum]
theorem Code.cfirst (h : Code w B G C l) {n : Nat} (hn : n < 12) : w.cell? ⟨G, 12 + n, none⟩ = some (.int .i64 ((Wd.fv l n : Nat) : Int)) := by rw [h.cw.blk.cell, h.first n hn]
theorem Code.crow (h : Code w B G C l) {n : Nat} (hn : n < 12) : ∃ A c, w.cell? ⟨G, n, none⟩ = some (.slice A (Wd.cv l n 256).length c) ∧ Sl w w.heap.size A (byts (Wd.cv l n 256)) := by
  obtain ⟨A, c, h1, h2⟩ := h.cw.row n hn
  exact ⟨A, c, by rw [h.cw.blk.cell, h1], Sl.of_own h2⟩
end

set_option maxHeartbeats 1000000 in
theorem allowed_any {w : World} {B G : Nat} {C : Array Value} {l : List Int} (h : Code w B G C l) (hl : l.length = 256) :
    Calls Try.prog 69 #[.pointer (some ⟨G, 0, none⟩)] w fun e w' => e = .returned (.bool (!Wd.badT l)) ∧ w' = w := by
  have cs := h.csum
  obtain ⟨A, c, c1, -⟩ := h.crow (n := 1) (by decide)
  have hq : (Wd.cv l 1 256).length = Wd.cnt l 1 256 := by rw [Wd.cv_len (by omega), if_neg (by decide)]
  rw [hq] at c1
  have ix1 := fun W => index12s (k := 1) (by decide) G W
  rw [show ((1 : Nat) : Int) = 1 from rfl] at ix1
  have Al := Lib.hid (Wd.allowed_is hl)
  clear h hq
  generalize ksum l = K at *
  generalize Wd.cnt l 1 256 = q at *
  generalize Wd.badT l = bt at *
  by_cases h0 : K = 0
  · have e : bt = false := Al.out.1 (.inl h0)
    subst h0; subst e
    have cs' : w.cell? ⟨G, 24, none⟩ = some (.int .i64 0) := cs
    clear cs
    go_enter Try.func69, Try.ntmps69
    go_wp2_with fail
    go_ret
    exact ⟨rfl, rfl⟩
  have z0 : ((K : Int) == 0) = false := by rw [beq_eq_false_iff_ne]; omega
  by_cases h1 : K = 2048
  · have e : bt = false := Al.out.1 (.inr (.inl h1))
    subst h1; subst e
    have cs' : w.cell? ⟨G, 24, none⟩ = some (.int .i64 2048) := cs
    clear cs z0
    go_enter Try.func69, Try.ntmps69
    go_wp2_with fail
    go_ret
    exact ⟨rfl, rfl⟩
  have z1 : ((K : Int) == 2048) = false := by rw [beq_eq_false_iff_ne]; omega
  by_cases h2 : K = 1024
  · subst h2
    have cs' : w.cell? ⟨G, 24, none⟩ = some (.int .i64 1024) := cs
    have e : (!bt) = (((q : Nat) : Int) == 1) := by
      by_cases hq1 : q = 1
      · have := Al.out.1 (.inr (.inr ⟨rfl, hq1⟩))
        rw [this, hq1]; rfl
      · have : ((q : Int) == 1) = false := by rw [beq_eq_false_iff_ne]; omega
        rw [this]
        cases bt with
        | true => rfl
        | false =>
          exfalso
          rcases Al.out.2 rfl with h | h | h <;> omega
    rw [e]
    clear cs z0 z1 h0 h1 e Al
    go_enter Try.func69, Try.ntmps69
    go_wp2_with fail
    go_ret
    exact ⟨rfl, rfl⟩
  have z2 : ((K : Int) == 1024) = false := by rw [beq_eq_false_iff_ne]; omega
  have e : bt = true := by
    cases bt with
    | true => rfl
    | false =>
      exfalso
      rcases Al.out.2 rfl with h | h | h <;> omega
  subst e
  clear h0 h1 h2 Al
  go_enter Try.func69, Try.ntmps69
  go_wp2_with fail
  go_ret
  exact ⟨rfl, rfl⟩

/-- How next ends. -/
def NextR (l : List Int) (bs : List Nat) (B S : Nat) (w : World) (e : Ending) (w' : World) : Prop :=
  ChW S w w' ∧ ((∃ i bs', Wd.rdN l bs = (0, i, bs') ∧ e = .returned (.tuple #[.int .u8 (i : Int), .bool true]) ∧ i < 256 ∧ WBits w' B S bs' ∧ ∀ y ∈ bs', y < 2)
    ∨ (Wd.rdN l bs = (4, 0, []) ∧ e = .returned (.tuple #[.int .u8 0, .bool false])) ∨ (Wd.rdN l bs = (2, 0, []) ∧ e = wShort))

set_option maxRecDepth 8000 in
set_option maxHeartbeats 8000000 in
theorem wnext_any {w : World} {B S B1 G : Nat} {C : Array Value} {l : List Int} {bs : List Nat} (h : Code w B1 G C l) (hg : Wd.Good l) (hs : WBits w B S bs) (hb2 : ∀ x ∈ bs, x < 2) (hSB : S < B1) :
    Calls Try.prog 70 #[.pointer (some ⟨G, 0, none⟩), .pointer (some ⟨S, 0, none⟩)] w (NextR l bs B S w) := by
  obtain ⟨R, hR⟩ : ∃ R, R = Wd.rdN l bs := ⟨_, rfl⟩
  have HR := Lib.hid hR
  have Hg := Lib.hid hg
  have H0 := Lib.hid h
  have hks : ksum l ≤ 2048 := (Wd.not_bad hg.ok).1
  have S0 := Lib.hid hs
  have T0 := Lib.hid hb2
  clear h hg hs hb2 hR
  go_enter Try.func70, Try.ntmps70
  go_wp2_with fail
  go_loopg [6, 7] 12 (fun d v n wr => ∃ (i x : Nat) (q : List Nat), d = 12 - i ∧ v = .int .i64 (x : Int) ∧ n = .int .i64 (i : Int) ∧ Wd.Nx l i x ∧ Wd.hdN l i x q = R ∧ WBits wr B S q ∧ ChW S w wr ∧ ∀ y ∈ q, y < 2)
  case atStart => exact ⟨0, 0, bs, rfl, rfl, rfl, Wd.Nx.start l, by rw [HR.out]; exact Wd.hdN_start l bs, S0.out, Chg.refl _ _, T0.out⟩
  case round =>
    obtain ⟨n, v, q, rfl, rfl, rfl, hnx, hhd, hbits, hch, h2⟩ := hrel
    have Nx := Lib.hid hnx
    have Hd := Lib.hid hhd
    have Hb := Lib.hid hbits
    have Hc := Lib.hid hch
    have H2 := Lib.hid h2
    have Cd := Lib.hid (H0.out.chw hSB hch)
    have hn11 := hnx.most
    have hvl : v < 2048 := Nat.lt_of_lt_of_le hnx.lt (by have := Nat.pow_le_pow_right (n := 2) (by decide) hn11; exact this)
    obtain ⟨m, hm⟩ : ∃ m, m = 11 - n := ⟨_, rfl⟩
    obtain ⟨P, hP⟩ : ∃ P, P = v * 2 ^ m := ⟨_, rfl⟩
    have hPb : P ≤ 2048 := by
      have h1 : v * 2 ^ m ≤ 2 ^ n * 2 ^ m := Nat.mul_le_mul_right _ (Nat.le_of_lt hnx.lt)
      rw [← Nat.pow_add, show n + m = 11 by omega] at h1
      omega
    have s1 : (11 : Int) - (n : Int) = (m : Int) := by omega
    have s2 : IntKind.i64.wrap ((11 : Int) - (n : Int)) = (m : Int) := by rw [IntKind.wrap_i64]; omega
    have s3 : (v : Int) * 2 ^ m = (P : Int) := by rw [hP]; simp
    have s4 : IntKind.i64.wrap (P : Int) = (P : Int) := by rw [IntKind.wrap_i64]; omega
    have cs := Cd.out.csum
    have HP := Lib.hid (show P = v * 2 ^ (11 - n) by rw [hP, hm])
    have HK := Lib.hid hks
    clear hnx hhd hbits hch h2 S0 T0 hm hP
    generalize hK : ksum l = K at *
    have hKe := Lib.hid hK
    clear hK
    go_wp2_with fail
    go_quiet (fail)
    have hb1 : WBits (wr.drewN nq) B S q := Hb.out.keep rfl ⟨rfl, rfl, rfl, Nat.le_refl _, fun _ _ => rfl⟩
    have hc1 : ChW S w (wr.drewN nq) := Hc.out.drewN nq
    have hd1 : Code (wr.drewN nq) B1 G C l := Cd.out.keep fun _ _ _ => rfl
    clear Hb Hc Cd cs s1 s2 s3 s4 hPb
    generalize wr.drewN nq = wv at *
    have Hb := Lib.hid hb1
    have Hc := Lib.hid hc1
    have Cd := Lib.hid hd1
    clear hb1 hc1 hd1
    by_cases hlt : P < K
    · rw [show decide (P < K) = true by rw [decide_eq_true_eq]; exact hlt]
      have hsm : v * 2 ^ (11 - n) < ksum l := by rw [← HP.out, hKe.out]; exact hlt
      have hn12 : n < 12 := by omega
      have ia := fun W => index12s hn12 G W
      have ib := fun W => index12i hn12 G W
      have cf := Cd.out.cfirst hn12
      obtain ⟨A, c, cr, hsl⟩ := Cd.out.crow hn12
      have hge := Nx.out.ge
      have hvl0 := Nx.out.lt
      have hDi : (v : Int) - ((Wd.fv l n : Nat) : Int) = ((v - Wd.fv l n : Nat) : Int) := by omega
      have Hsm := Lib.hid hsm
      have Hsl := Lib.hid hsl
      clear hsm hsl hge hvl0 hlt
      by_cases hit : v - Wd.fv l n < (Wd.cv l n 256).length
      · have hr := Wd.nx_hit Hg.out Nx.out hit q
        rw [Hd.out] at hr
        have hi256 := Wd.hit_lt (l := l) (n := n) (v := v) hit
        obtain ⟨b, o, eA, cx⟩ := sl_cell Hsl.out hit
        subst eA
        have HRr := Lib.hid hr
        clear hr
        generalize (Wd.cv l n 256).getD (v - Wd.fv l n) 0 = x at *
        generalize (Wd.cv l n 256).length = len at *
        generalize Wd.fv l n = f at *
        have z1 : decide (((v - f : Nat) : Int) < (len : Int)) = true := by rw [decide_eq_true_eq]; omega
        have z1' : decide (v - f < len) = true := by rw [decide_eq_true_eq]; exact hit
        go_wp2_with fail
        go_returns
        exact ⟨Hc.out, .inl ⟨x, q, by rw [← HR.out, HRr.out], rfl, hi256, Hb.out, H2.out⟩⟩
      · obtain ⟨m1, m2, m3⟩ := Wd.nx_more Hg.out Nx.out Hsm.out hit
        have M2 := Lib.hid m2
        have M3 := Lib.hid m3
        clear m2 m3
        have z1 : decide (((v - Wd.fv l n : Nat) : Int) < (((Wd.cv l n 256).length : Nat) : Int)) = false := by rw [decide_eq_false_iff_not]; omega
        have z1' : decide (v - Wd.fv l n < (Wd.cv l n 256).length) = false := by rw [decide_eq_false_iff_not]; exact hit
        clear hit Hsm
        generalize (Wd.cv l n 256).length = len at *
        generalize Wd.fv l n = f at *
        cases q with
        | nil =>
          have N := Lib.hid (wbit_no Hb.out)
          go_wp2_with fail
          refine N.out.mono ?_
          rintro e w2 ⟨rfl, rfl⟩
          go_wp2_with fail
          exact ⟨rfl, Hc.out, .inr (.inr ⟨by rw [← HR.out, ← Hd.out, M2.out], rfl⟩)⟩
        | cons b q =>
          have N := Lib.hid (wbit_ok Hb.out)
          have hb : b < 2 := H2.out b (List.mem_cons_self ..)
          have hor := or_bit (a := v) (b := b) (by omega) hb
          obtain ⟨Y, hY⟩ : ∃ Y : Nat, Y = v * 2 + b := ⟨_, rfl⟩
          rw [← hY] at hor
          have HY := Lib.hid hY
          clear hY
          go_wp2_with fail
          refine N.out.mono ?_
          rintro e w2 ⟨rfl, hb2, hc2⟩
          have Hb2 := Lib.hid hb2
          have Hc2 := Lib.hid (Hc.out.then_ hc2)
          clear hb2 hc2 N
          go_wp2_with fail
          go_roundg (12 - (n + 1))
          case rel =>
            obtain ⟨k1, k2⟩ := M3.out b q hb
            exact ⟨n + 1, Y, q, rfl, rfl, by go_num, by rw [HY.out]; exact k1, by rw [HY.out, ← k2, Hd.out], Hb2.out, Hc2.out, fun y hy => H2.out y (List.mem_cons_of_mem _ hy)⟩
          case measure => omega
    · rw [show decide (P < K) = false by rw [decide_eq_false_iff_not]; exact hlt]
      have hr := Wd.nx_out Hg.out Nx.out (by rw [← HP.out, hKe.out]; omega) q
      rw [Hd.out] at hr
      have HRr := Lib.hid hr
      clear hr hlt
      go_wp2_with fail
      go_returns
      exact ⟨Hc.out, .inr (.inl ⟨by rw [← HR.out, HRr.out], rfl⟩)⟩
end Go.Proofs.Ytnkgcibdibgmjaa

namespace Go.Proofs.Ytnkgcibdibgmjaa
open Go.RowKit

/-- How decode ends. -/
def WDecR (R : List Nat × Nat) (S : Nat) (W : World) (e : Ending) (w' : World) : Prop :=
  ChW S W w' ∧ ((∃ A c, e = .returned (.tuple #[.slice A R.1.length c, .int .i64 (R.2 : Int)]) ∧ OwnB w' W.heap.size A R.1.length c R.1 ∧ (∀ x ∈ R.1, x < 256) ∧ R.1.length ≤ 1000000) ∨ (e = wShort ∧ R = ([], 2)))
theorem wdecR_no {R : List Nat × Nat} {S E : Nat} {w w' : World} (h : R = ([], E)) (hb : ChW S w w') : WDecR R S w (.returned (.tuple #[.slice none 0 0, .int .i64 (E : Int)])) w' := by
  subst h
  exact ⟨hb, .inl ⟨none, 0, rfl, World.ownsRow_nil _ _ _ _, by simp, by simp⟩⟩
theorem wdecR_ok {R : List Nat × Nat} {S B : Nat} {w w' : World} {o : List Nat} {A : Option Addr} {n c : Nat} (h : R = (o, 0)) (hm : OwnB w' B A n c o) (hB : w.heap.size ≤ B) (hl : ∀ x ∈ o, x < 256) (hn : n ≤ 1000000) (hb : ChW S w w') : WDecR R S w (.returned (.tuple #[.slice A n c, .int .i64 0])) w' := by
  subst h
  have hlen := ownB_len hm
  subst hlen
  exact ⟨hb, .inl ⟨A, c, rfl, World.ownsRow_base hm hB, hl, hn⟩⟩
theorem bits8_two (x : Nat) : ∀ y ∈ Wd.bits8 x, y < 2 := by
  intro y hy
  simp only [Wd.bits8, List.mem_cons, List.not_mem_nil, or_false] at hy
  omega
theorem bitsB_two : ∀ l : List Nat, ∀ y ∈ Wd.bitsB l, y < 2 := by
  intro l y hy
  obtain ⟨x, -, hx⟩ := List.mem_flatMap.1 hy
  exact bits8_two x y hx

/-- Between two words. -/
structure WDec (w5 wr : World) (B S n k : Nat) (L : List Int) (RA : Nat × List Nat × List Nat) (q o : List Nat) (A : Option Addr) (c : Nat) : Prop where
  bits : WBits wr B S q
  two : ∀ y ∈ q, y < 2
  own : OwnB wr w5.heap.size A k c o
  lt : ∀ x ∈ o, x < 256
  chg : ChW S w5 wr
  is : Wd.rdAll L (Wd.codes L) (Wd.usedN L 256) (n - k) q o = RA

set_option maxRecDepth 8000 in
set_option maxHeartbeats 8000000 in
theorem wdecode_any {W : World} {B S : Nat} {l : List Nat} (h : WSrc W B S l 0 0) (n : Nat) (hn : n ≤ 4096) :
    Calls Try.prog 62 #[.pointer (some ⟨S, 0, none⟩), .int .i64 (n : Int)] W (WDecR (Wd.unpack l (n : Int)) S W) := by
  obtain ⟨t, N, ht, hN, hagg, hix, hund, hsz, hz0⟩ := t256
  obtain ⟨Z, hZ⟩ : ∃ Z, Z = ints (List.replicate 256 0) := ⟨_, rfl⟩
  rw [← hZ] at hz0
  have hZs : Z.size = 256 := by rw [hZ, ints_size, List.length_replicate]
  obtain ⟨i0, hi0, hzb, hs0, hb0⟩ := byte_parts (P := Try.prog) (e := 5) (by kernel_rfl)
  obtain ⟨R, hR⟩ : ∃ R, R = Wd.unpack l (n : Int) := ⟨_, rfl⟩
  have hR2 : R = if (Wd.table l).1 = 0 then Wd.body (Wd.table l).2.1 n (Wd.bitsB (Wd.table l).2.2) else ([], (Wd.table l).1) := by
    rw [hR]; unfold Wd.unpack; rw [if_neg (by omega), Int.toNat_natCast]
  have HR := Lib.hid hR2
  rw [← hR]
  have T0 := Lib.hid (wtable_any h)
  have hSW : S < W.heap.size := h.lt_heap
  have hBS := h.bS
  have HN := Lib.hid hN
  have HZs := Lib.hid hZs
  have Hi0 := Lib.hid hi0
  have Hzb := Lib.hid hzb
  have Hs0 := Lib.hid hs0
  have Hb0 := Lib.hid hb0
  have E1 : Op.alloc 50 = Op.alloc t := by rw [ht]
  have E2 : ∀ a b, Op.store 50 a b = Op.store t a b := by rw [ht]; exact fun _ _ => rfl
  have E4 : ∀ a, Op.load 50 a = Op.load t a := by rw [ht]; exact fun _ => rfl
  clear ht hix hN hZ hZs hR hR2 h hi0 hzb hs0 hb0
  go_enter Try.func62, Try.ntmps62
  simp only [E1, E2, E4]
  clear E1 E2 E4
  go_wp2_with fail
  refine T0.out.mono ?_
  rintro e w1 ⟨hc1, ⟨L, rest, hrd, rfl, hs1, hL, hrng⟩ | ⟨P, hP, hrd, rfl⟩ | ⟨hrd, rfl⟩⟩
  · have hc1z := hc1.size
    obtain ⟨T, hT⟩ : ∃ T, T = ints L := ⟨_, rfl⟩
    have hTs : T.size = N := by rw [hT, ints_size, HN.out]; exact hL
    obtain ⟨W2, hW2⟩ : ∃ X, X = w1.alloc (.cells Z t) := ⟨_, rfl⟩
    obtain ⟨g, hg⟩ : ∃ g, w1.heap.size = g := ⟨_, rfl⟩
    have hg0 := Lib.hid hg
    have b2 : Blk W2 g t Z := by rw [hW2, ← hg]; exact Blk.new _ _ _
    obtain ⟨s1, hb3⟩ := store_blk (ds := T) (by rw [hTs, HZs.out, HN.out]) b2 (fun u hu => by
      have := ints_one L
      rw [← hT, Array.all_eq_true_iff_forall_mem] at this
      exact this u (by simpa using hu))
    have l3 := load_blk (N := N) hTs hb3
    have hbw : Below w1.heap.size w1 (W2.setCells g 0 T.toList) := by
      rw [hW2]; exact ((Below.refl _ _).alloc (Nat.le_refl _) _).trans (below_cells _ _ _ (by omega))
    have e2 : w1.alloc (.cells Z t) = W2 := hW2.symm
    have HS3 := Lib.hid (hs1.keep (hbw.block S (by have := hs1.lt_heap; exact this)) (hbw.mono (by omega)))
    have HC3 := Lib.hid (chg_below hc1 (hbw.mono hc1z))
    rw [← hT]
    have HT := Lib.hid hT
    have Hg := Lib.hid (show ∀ (_ : Wd.badT L = false), Wd.Good L from fun hb => ⟨hL, hrng, hb⟩)
    have Cn := Lib.hid (fun X => canon_any X L hL hrng)
    rw [← hT] at Cn
    have Hrd := Lib.hid hrd
    have HL := Lib.hid hL
    clear hc1 hs1 hb3 hbw hW2 b2 hT hrng hrd T0 hL
    go_wp2_with fail
    generalize W2.setCells g 0 T.toList = w3 at *
    go_wp2_with fail
    refine (Cn.out _).mono ?_
    rintro e w5 ⟨G, C, rfl, hcd, hb5⟩
    have hS3 : S < w3.heap.size := HS3.out.lt_heap
    have hB3 : B ≤ w3.heap.size := by omega
    have HS5 := Lib.hid (HS3.out.keep (hb5.block S hS3) (hb5.mono hB3))
    have HC5 := Lib.hid (chg_below HC3.out (hb5.mono HC3.out.size))
    have Al := Lib.hid (allowed_any hcd HL.out)
    have Cd := Lib.hid hcd
    clear hcd hb5 HS3 HC3 l3 s1 e2 Cn
    go_wp2_with fail
    refine Al.out.mono ?_
    rintro e w6 ⟨rfl, hw6⟩
    subst hw6
    clear Al
    by_cases hbt : Wd.badT L = true
    · have hr : R = ([], 4) := by
        rw [HR.out]; unfold Wd.table; rw [Hrd.out]; simp [hbt]
      have Hr := Lib.hid hr
      rw [hbt]
      clear hr hbt
      go_wp2_with fail
      go_returns
      exact wdecR_no Hr.out HC5.out
    have hbf : Wd.badT L = false := by simpa using hbt
    obtain ⟨RA, hRA⟩ : ∃ RA, RA = Wd.rdAll L (Wd.codes L) (Wd.usedN L 256) n (Wd.bitsB rest) [] := ⟨_, rfl⟩
    have hr : R = if RA.1 = 0 then Wd.endV RA.2.2 RA.2.1 else ([], RA.1) := by
      rw [HR.out]; unfold Wd.table; rw [Hrd.out]; simp only [if_true, hbf]; unfold Wd.body; rw [hRA]; rfl
    have Hr := Lib.hid hr
    have HG := Lib.hid (Hg.out hbf)
    obtain ⟨w0, hmk, hown0, hgr0⟩ := run_make_own (P := Try.prog) w6 w6.heap.size 22 5 i0 (.int .u8 0) 1 Try.underlying22 Hi0.out Hzb.out Hs0.out .i64 .i64 n (by rw [Hb0.out]; omega) (by unfold maxLen; omega) (Nat.le_refl _)
    have hc0 : ChW S w6 w0 := (Chg.refl _ _).grown hgr0 (fun k hk => by simp at hk)
    have hS6 : S < w6.heap.size := HS5.out.lt_heap
    have D0 := Lib.hid (show WDec w6 w0 B S n 0 L RA (Wd.bitsB rest) [] (some ⟨w6.heap.size, 0, none⟩) n from
      ⟨HS5.out.bits.keep (hgr0.block S hS6 (by simp)) ((Below.refl B w6).grown hgr0 (Nat.le_trans hBS (Nat.le_of_lt hS6)) (fun k hk => by simp at hk)), bitsB_two rest, hown0, by simp, hc0, hRA.symm⟩)
    rw [hbf]
    have Hbt := Lib.hid hbt
    clear hr hRA hc0 hown0 hgr0 hbt hbf Hg HS5
    go_wp2_with fail
    go_loopw [9, 29] (fun v i wr => ∃ (k : Nat) (q o : List Nat) (A : Option Addr) (c : Nat), k ≤ n ∧ i = .int .i64 k ∧ v = .slice A k c ∧ WDec w6 wr B S n k L RA q o A c) (fun _ i _ => n - (intOf i).toNat)
    case atStart => exact ⟨0, Wd.bitsB rest, [], _, n, Nat.zero_le _, rfl, rfl, D0.out⟩
    case round =>
      obtain ⟨k, q, o, A, c, hk, rfl, rfl, hd⟩ := hrel
      have D := Lib.hid hd
      clear hd D0 hmk
      by_cases hkn : k < n
      · have q0 : decide ((k : Int) < (n : Int)) = true := by rw [decide_eq_true_eq]; omega
        have q0' : decide (k < n) = true := by rw [decide_eq_true_eq]; exact hkn
        have N := Lib.hid (wnext_any (Cd.out.chw hS3 D.out.chg) HG.out D.out.bits D.out.two hS3)
        have hia := D.out.is
        obtain ⟨j, hj⟩ : ∃ j, n - k = j + 1 := ⟨n - k - 1, by omega⟩
        rw [hj, Wd.rdAll_next] at hia
        have Hia := Lib.hid hia
        have Hj := Lib.hid hj
        clear hia hj
        go_wp2_with fail
        refine N.out.mono ?_
        rintro e w7 ⟨hc7, ⟨x, q', hrn, rfl, hx, hb7, hq2⟩ | ⟨hrn, rfl⟩ | ⟨hrn, rfl⟩⟩
        · have hown7 := own_keep D.out.own fun b hb hlt => hc7.block b hlt (by have := (D.out.own.lt b hb).1; show b ≠ S; omega)
          have hia := Hia.out
          rw [hrn, if_pos rfl] at hia
          have Hq2 := Lib.hid hq2
          have Hia2 := Lib.hid hia
          have Hx := Lib.hid hx
          have C7 := Lib.hid (D.out.chg.then_ hc7)
          have hal : Below w7.heap.size w7 (w7.alloc (.cells #[.int .u8 (x : Int)] 5)) := (Below.refl _ _).alloc (Nat.le_refl _) _
          have hS7 : S < w7.heap.size := hb7.lt_heap
          have hB7 : B ≤ w7.heap.size := Nat.le_trans hBS (Nat.le_of_lt hS7)
          have B7 := Lib.hid (hb7.keep (hal.block S hS7) (hal.mono hB7))
          have hw67 : w6.heap.size ≤ w7.heap.size := C7.out.size
          have Mz := Lib.hid (ownB_alloc hown7 (.cells #[.int .u8 (x : Int)] 5))
          have Sz := Lib.hid (sl_cells (w := w7) (cs := #[.int .u8 (x : Int)]) (l := [x]) rfl)
          have Cz := Lib.hid (C7.out.alloc (.cells #[.int .u8 (x : Int)] 5))
          have hwB2 : w6.heap.size ≤ (w7.alloc (.cells #[.int .u8 (x : Int)] 5)).heap.size := Nat.le_trans hw67 (by simp)
          have hi0 := Hi0.out
          have hzb := Hzb.out
          have hs0 := Hs0.out
          have hb0 := Hb0.out
          have hSz : S < (w7.alloc (.cells #[.int .u8 (x : Int)] 5)).heap.size := Nat.lt_of_lt_of_le hS7 (by simp)
          clear hrn hia hq2 hx hc7 hb7 hown7 hal N Hia
          go_wp2_with (at_builtin; refine wpList_append_sl (base := w6.heap.size) _ rfl (.tmp 39) (.tmp 41) _ rfl Try.underlying22 hi0 hzb hs0 hb0 rfl rfl Mz.out rfl (byts_length [x]).symm (by simp) Sz.out (byts_one _) (by rw [byts_length]; exact Nat.le_refl _) (by rw [byts_length]; unfold maxLen; simp; omega) (by rw [byts_length]; simp; omega) hwB2 ?_; intro v8 w8 h1 h2 _; obtain ⟨A8, c8, rfl, m8, b8⟩ := ownB_app Mz.out hwB2 (r := [x]) rfl (show k + 1 = k + 1 from rfl) h1 h2; have M8 := Lib.hid m8; have B8 := Lib.hid b8; clear h1 h2 m8 b8)
          go_roundw
          case rel =>
            refine ⟨k + 1, q', o ++ [x], A8, c8, by omega, by go_num, rfl, B7.out.keep (B8.out.block S hS6) (B8.out.mono (by omega)), Hq2.out, M8.out, fun y hy => ?_, chg_below Cz.out B8.out, ?_⟩
            · rcases List.mem_append.1 hy with h | h
              · exact D.out.lt y h
              · rw [List.mem_singleton] at h; subst h; exact Hx.out
            · rw [← Hia2.out, show n - (k + 1) = j by have := Hj.out; omega]
          case measure => simp [intOf]; omega
        · have hia := Hia.out
          rw [hrn, if_neg (by decide)] at hia
          have hr4 : R = ([], 4) := by rw [Hr.out, ← hia]; rfl
          have Hr4 := Lib.hid hr4
          have C7 := Lib.hid (HC5.out.then_ (D.out.chg.then_ hc7))
          clear hrn hia hr4 hc7 N
          go_wp2_with fail
          go_returns
          exact wdecR_no Hr4.out C7.out
        · have hia := Hia.out
          rw [hrn, if_neg (by decide)] at hia
          have hr2 : R = ([], 2) := by rw [Hr.out, ← hia]; rfl
          have Hr2 := Lib.hid hr2
          have C7 := Lib.hid (HC5.out.then_ (D.out.chg.then_ hc7))
          clear hrn hia hr2 hc7 N
          go_wp2_with fail
          exact ⟨rfl, C7.out, .inr ⟨rfl, Hr2.out⟩⟩
      · have hkn4 : k = n := by omega
        subst hkn4
        have q0 : decide ((k : Int) < (k : Int)) = false := by simp
        have q0' : decide (k < k) = false := by simp
        have N := Lib.hid (wend_any D.out.bits)
        have hia := D.out.is
        rw [Nat.sub_self, Wd.rdAll] at hia
        have hr5 : R = if endE q = 0 then (o, 0) else ([], endE q) := by
          rw [Hr.out, ← hia]
          simp only [if_true]
          exact endV_is q o
        have Hr5 := Lib.hid hr5
        have C7 := Lib.hid (HC5.out.then_ D.out.chg)
        clear hia hr5 hkn
        generalize hE : endE q = E at *
        clear hE
        go_wp2_with fail
        refine N.out.mono ?_
        rintro e w7 ⟨rfl, hw7⟩
        subst hw7
        by_cases hE0 : E = 0
        · have hr6 := Hr5.out
          rw [if_pos hE0] at hr6
          have Hr6 := Lib.hid hr6
          subst hE0
          clear hr6
          go_wp2_with fail
          go_returns
          exact wdecR_ok Hr6.out D.out.own HC5.out.size D.out.lt (by omega) C7.out
        · have hr6 := Hr5.out
          rw [if_neg hE0] at hr6
          have Hr6 := Lib.hid hr6
          have z0 : ((E : Int) != 0) = true := by rw [bne_iff_ne]; omega
          have z0' : (E != 0) = true := by rw [bne_iff_ne]; exact hE0
          clear hr6 hE0
          go_wp2_with fail
          go_returns
          exact wdecR_no Hr6.out C7.out
  · have hc1z := hc1.size
    obtain ⟨T, hT⟩ : ∃ T, T = ints P := ⟨_, rfl⟩
    have hTs : T.size = N := by rw [hT, ints_size, HN.out]; exact hP
    obtain ⟨W2, hW2⟩ : ∃ X, X = w1.alloc (.cells Z t) := ⟨_, rfl⟩
    obtain ⟨g, hg⟩ : ∃ g, w1.heap.size = g := ⟨_, rfl⟩
    have b2 : Blk W2 g t Z := by rw [hW2, ← hg]; exact Blk.new _ _ _
    obtain ⟨s1, -⟩ := store_blk (ds := T) (by rw [hTs, HZs.out, HN.out]) b2 (fun u hu => by
      have := ints_one P
      rw [← hT, Array.all_eq_true_iff_forall_mem] at this
      exact this u (by simpa using hu))
    have hbw : Below w1.heap.size w1 (W2.setCells g 0 T.toList) := by
      rw [hW2]; exact ((Below.refl _ _).alloc (Nat.le_refl _) _).trans (below_cells _ _ _ (by omega))
    have e2 : w1.alloc (.cells Z t) = W2 := hW2.symm
    have HC3 := Lib.hid (chg_below hc1 (hbw.mono hc1z))
    rw [← hT]
    have hr : R = ([], 4) := by rw [HR.out]; unfold Wd.table; rw [hrd]; rfl
    have Hr := Lib.hid hr
    clear hc1 hbw hW2 b2 hT hrd T0 hr
    go_wp2_with fail
    generalize W2.setCells g 0 T.toList = w3 at *
    go_returns
    exact wdecR_no Hr.out HC3.out
  · have hr : R = ([], 2) := by rw [HR.out]; unfold Wd.table; rw [hrd]; rfl
    have Hr := Lib.hid hr
    have C1 := Lib.hid hc1
    clear hr hrd hc1 T0
    go_wp2_with fail
    exact ⟨rfl, C1.out, .inr ⟨rfl, Hr.out⟩⟩
end Go.Proofs.Ytnkgcibdibgmjaa

namespace Go.Proofs.Ytnkgcibdibgmjaa
open Go.RowKit

theorem wrun_eql_two (w : World) : (binOp .eql 20 (.iface 34 (.int .i64 2)) (.iface 34 (.int .i64 2))).run Try.prog w = .ok (.bool true) w := by
  have u1 := Try.underlying20
  have u2 := Try.underlying34
  simp only [binOp, Op.equal, Op.maxDepth]
  rw [show (10000 : Nat) = 9998 + 1 + 1 from rfl, Op.equalIn]
  simp only [Sem.run_bind, run_underlying u1, Result.andThen_ok]
  go_simp
  intro h
  have hc : Try.t34.comparable = true := by kernel_rfl
  rw [hc] at h
  cases h
set_option maxRecDepth 20000 in
theorem wrun_eql_two_nil (w : World) : (binOp .eql 20 (.iface 34 (.int .i64 2)) .nilIface).run Try.prog w = .ok (.bool false) w :=
  run_eql_iface_nil_left w 34 (.int .i64 2) Try.underlying20
theorem wrun_eql_nils (w : World) : (binOp .eql 20 .nilIface .nilIface).run Try.prog w = .ok (.bool true) w := by kernel_rfl

theorem wucatch_idle (p q : Addr) (w : World) :
    CallsD Try.prog 61 #[.pointer (some p), .pointer (some q)] .returning w fun e u' w' => e = .returned (.tuple #[]) ∧ u' = .returning ∧ w' = w := by
  have e0 := wrun_eql_nils
  refine callsD_of_wpS Try.func61 rfl fun c₀ cs hu => ?_
  simp only [Try.ntmps61, List.size_toArray, List.length_cons, List.length_nil, Nat.reduceAdd, Nat.reduceSub, Array.replicate_succ, Array.replicate_zero, List.push_toArray, List.append_toArray, List.nil_append, List.cons_append]
  apply wpS_seq
  apply wpS_region
  simp [wpOpsS, go_sem, recoverD, hu, Exit.thenS]
  refine wpS_of_wp ?_
  go_wp2_with fail
  cases c₀
  simp_all [bodyPostS, results, Try.results61]
theorem wucatch_err (G E : Nat) (x y : Value) (older : List PanicEntry) (w : World) (hG : w.cell? ⟨G, 0, none⟩ = some x) (hz : w.frozen? ⟨G, 0, none⟩ = false) (hE : w.cell? ⟨E, 0, none⟩ = some y) (hz2 : w.frozen? ⟨E, 0, none⟩ = false) (hne : G ≠ E) :
    CallsD Try.prog 61 #[.pointer (some ⟨G, 0, none⟩), .pointer (some ⟨E, 0, none⟩)] (.panicking ({ v := .iface 34 (.int .i64 2), recovered := false } :: older)) w fun e u' w' =>
      e = .returned (.tuple #[]) ∧ u' = .panicking ({ v := .iface 34 (.int .i64 2), recovered := true } :: older) ∧ w' = (w.setCell ⟨G, 0, none⟩ (.slice none 0 0)).setCell ⟨E, 0, none⟩ (.int .i64 2) := by
  have e1 := wrun_eql_two
  have e2 := wrun_eql_two_nil
  have hE' : (w.setCell ⟨G, 0, none⟩ (.slice none 0 0)).cell? ⟨E, 0, none⟩ = some y := (World.cell?_of_block (Below.heap_setCell w ⟨G, 0, none⟩ _ E (Ne.symm hne))).trans hE
  refine callsD_of_wpS Try.func61 rfl fun c₀ cs hu => ?_
  simp only [Try.ntmps61, List.size_toArray, List.length_cons, List.length_nil, Nat.reduceAdd, Nat.reduceSub, Array.replicate_succ, Array.replicate_zero, List.push_toArray, List.append_toArray, List.nil_append, List.cons_append]
  apply wpS_seq
  apply wpS_region
  simp [wpOpsS, go_sem, recoverD, hu, Exit.thenS]
  refine wpS_of_wp ?_
  go_wp2_with fail
  cases c₀
  simp_all [bodyPostS, results, Try.results61]

theorem wcell_at {w : World} {g : Nat} {t : TypeId} {v : Value} (h : Blk w g t #[v]) : w.cell? ⟨g, 0, none⟩ = some v := h.cell 0
/-- Two new cells: Unpack's answer. -/
abbrev WU2 (w : World) : World := (w.alloc (.cells #[.slice none 0 0] 22)).alloc (.cells #[.int .i64 0] 34)
theorem wU2_size (w : World) : (WU2 w).heap.size = w.heap.size + 2 := by simp [WU2]
theorem wU2_below (w : World) : Below w.heap.size w (WU2 w) := ((Below.refl _ _).alloc (Nat.le_refl _) _).alloc (by simp) _

set_option maxHeartbeats 2000000 in
theorem wunpack_is : WUnpackC := by
  intro w A c l n N hby hlen hN
  have hmf : ∀ (fn : Fn) (first cap : Array Value) (w : World), (Instr.makeFunc fn first cap).run Try.prog w = .ok (.func fn first cap) w := fun _ _ _ _ => rfl
  have b0 : Blk (WU2 w) w.heap.size 22 #[.slice none 0 0] := (Blk.new w _ _).alloc _
  have b1 : Blk (WU2 w) (w.heap.size + 1) 34 #[.int .i64 0] := by
    have := Blk.new (w.alloc (.cells #[.slice none 0 0] 22)) 34 #[.int .i64 0]
    simpa using this
  have g0 := b0.cell 0
  have f0 := b0.frozen 0
  have g1 := b1.cell 0
  have f1 := b1.frozen 0
  simp only [List.getElem?_toArray, List.getElem?_cons_zero] at g0 g1
  by_cases hout : n < 0 ∨ 4096 < n
  · have hr : Wd.unpack l n = ([], 1) := by unfold Wd.unpack; rw [if_pos hout]
    rw [hr]
    have r0 : ((w.alloc (.cells #[.slice none 0 0] 22)).alloc (.cells #[.int .i64 1] 34)).cell? ⟨w.heap.size, 0, none⟩ = some (.slice none 0 0) := ((Blk.new w 22 #[.slice none 0 0]).alloc _).cell 0
    have r1 : ((w.alloc (.cells #[.slice none 0 0] 22)).alloc (.cells #[.int .i64 1] 34)).cell? ⟨w.heap.size + 1, 0, none⟩ = some (.int .i64 1) := by
      simp
    have Done := Lib.hid (show UnpR ([], 1) w (.returned (.tuple #[.slice none 0 0, .int .i64 1])) ((w.alloc (.cells #[.slice none 0 0] 22)).alloc (.cells #[.int .i64 1] 34)) from ⟨none, 0, rfl, By.none _, ((Below.refl _ _).alloc (Nat.le_refl _) _).alloc (by simp) _⟩)
    rcases hout with h | h
    · have q1 : decide (n < 0) = true := by simpa using h
      clear h
      go_enter_defers Try.func50, Try.ntmps50
      go_wp2_with fail
      exact ⟨.tuple #[.slice none 0 0, .int .i64 1], by simp [results, Try.results50, go_sem, r0, r1], Done.out⟩
    · have q1 : decide (n < 0) = false := by rw [decide_eq_false_iff_not]; omega
      have q2 : decide (4096 < n) = true := by simpa using h
      clear h
      go_enter_defers Try.func50, Try.ntmps50
      go_wp2_with fail
      exact ⟨.tuple #[.slice none 0 0, .int .i64 1], by simp [results, Try.results50, go_sem, r0, r1], Done.out⟩
  · have q1 : decide (n < 0) = false := by rw [decide_eq_false_iff_not]; omega
    have q2 : decide (4096 < n) = false := by rw [decide_eq_false_iff_not]; omega
    obtain ⟨m, rfl⟩ : ∃ m : Nat, n = (m : Int) := ⟨n.toNat, by omega⟩
    have q2' : decide (4096 < m) = false := by rw [decide_eq_false_iff_not]; omega
    obtain ⟨w3, h3⟩ : ∃ x, x = (WU2 w).alloc (.cells #[.slice A N c, .int .u8 0, .int .i64 0] 102) := ⟨_, rfl⟩
    have e3 : ((w.alloc (.cells #[.slice none 0 0] 22)).alloc (.cells #[.int .i64 0] 34)).alloc (.cells #[.slice A N c, .int .u8 0, .int .i64 0] 102) = w3 := h3.symm
    have hz3 : w3.heap.size = w.heap.size + 3 := by rw [h3]; simp
    have hb3 : Below w.heap.size w w3 := by rw [h3]; exact (wU2_below w).alloc (by rw [wU2_size]; omega) _
    have hsrc : WSrc w3 w.heap.size (w.heap.size + 2) l 0 0 := by
      refine ⟨by omega, hby.lt, hlen, by decide, by decide, rfl, A, c, ?_, hby.cap, hby.nil, hby.sl.below hb3⟩
      rw [h3, ← hN, ← wU2_size w]; exact Blk.new _ _ _
    have B3 : Blk w3 w.heap.size 22 #[.slice none 0 0] := by rw [h3]; exact b0.alloc _
    have C3 : Blk w3 (w.heap.size + 1) 34 #[.int .i64 0] := by rw [h3]; exact b1.alloc _
    have N3 := Lib.hid (wdecode_any hsrc m (by omega))
    have HB := Lib.hid hb3
    have HB3 := Lib.hid B3
    have HC3 := Lib.hid C3
    have hsz : (WU2 w).heap.size = w.heap.size + 2 := wU2_size w
    have HN := Lib.hid hN
    clear hN h3 hb3 hsrc B3 C3 b0 b1 g0 g1 f0 f1 hby hout
    generalize Wd.unpack l (m : Int) = R at *
    go_enter_defers Try.func50, Try.ntmps50
    go_wp2_with fail
    refine N3.out.mono ?_
    rintro e w4 ⟨hc4, ⟨A4, c4, rfl, ho4, hlt4, hle4⟩ | ⟨rfl, hr⟩⟩
    · have HB4 := HB3.out.keep (hc4.block _ HB3.out.lt (by omega))
      have HC4 := HC3.out.keep (hc4.block _ HC3.out.lt (by omega))
      have g0 := wcell_at HB4
      have f0 := HB4.frozen 0
      have g1 := wcell_at HC4
      have f1 := HC4.frozen 0
      have g1' : ∀ v, (w4.setCell ⟨w.heap.size, 0, none⟩ v).cell? ⟨w.heap.size + 1, 0, none⟩ = some (.int .i64 0) := fun v => (HC4.far (p := ⟨w.heap.size, 0, none⟩) (by simp) v).cell 0
      have s0 := ((HB4.set_ 0 (.slice A4 R.1.length c4)).far (p := ⟨w.heap.size + 1, 0, none⟩) (by simp) (.int .i64 (R.2 : Int))).cell 0
      have s1 := ((HC4.far (p := ⟨w.heap.size, 0, none⟩) (by simp) (.slice A4 R.1.length c4)).set_ 0 (.int .i64 (R.2 : Int))).cell 0
      simp at s0 s1
      have hbel := ((HB.out.trans (Chg.below hc4 (by omega) (fun i hi => by omega))).setCell (p := ⟨w.heap.size, 0, none⟩) (Nat.le_refl _) (.slice A4 R.1.length c4)).setCell (p := ⟨w.heap.size + 1, 0, none⟩) (by simp) (.int .i64 (R.2 : Int))
      have hch := ((Chg.refl (fun b => b = w.heap.size ∨ b = w.heap.size + 1) w4).setCell (p := ⟨w.heap.size, 0, none⟩) (.inl (.inl rfl)) (.slice A4 R.1.length c4)).setCell (p := ⟨w.heap.size + 1, 0, none⟩) (.inl (.inr rfl)) (.int .i64 (R.2 : Int))
      have hby4 := By.of_own (own_keep ho4 fun b hb hlt => hch.block b hlt (by have := (ho4.lt b hb).1; omega)) hlt4 hle4
      have Hfin := Lib.hid (show UnpR R w (.returned (.tuple #[.slice A4 R.1.length c4, .int .i64 (R.2 : Int)])) _ from ⟨A4, c4, rfl, hby4, hbel⟩)
      clear hbel hch hby4 ho4 hlt4 hle4 HB4 HC4 hc4 HB HB3 HC3 N3
      go_wp2_with fail
      refine leaves_cons (f := 61) (args := #[.pointer (some ⟨w.heap.size, 0, none⟩), .pointer (some ⟨w.heap.size + 1, 0, none⟩)]) (by simp) (by simp [go_sem]) ?_
      refine (wucatch_idle _ _ _).mono ?_
      rintro e u' w'' ⟨rfl, rfl, rfl⟩
      simp [Leaves, settle, results, Try.results50, go_sem, s0, s1]
      exact Hfin.out
    · have HB4 := HB3.out.keep (hc4.block _ HB3.out.lt (by omega))
      have HC4 := HC3.out.keep (hc4.block _ HC3.out.lt (by omega))
      have s0 := ((HB4.set_ 0 (.slice none 0 0)).far (p := ⟨w.heap.size + 1, 0, none⟩) (by simp) (.int .i64 2)).cell 0
      have s1 := ((HC4.far (p := ⟨w.heap.size, 0, none⟩) (by simp) (.slice none 0 0)).set_ 0 (.int .i64 2)).cell 0
      simp at s0 s1
      have hbel := ((HB.out.trans (Chg.below hc4 (by omega) (fun i hi => by omega))).setCell (p := ⟨w.heap.size, 0, none⟩) (Nat.le_refl _) (.slice none 0 0)).setCell (p := ⟨w.heap.size + 1, 0, none⟩) (by simp) (.int .i64 2)
      have Hfin := Lib.hid (show UnpR R w (.returned (.tuple #[.slice none 0 0, .int .i64 2])) _ from by subst hr; exact ⟨none, 0, rfl, By.none _, hbel⟩)
      have Hcat := Lib.hid (wucatch_err w.heap.size (w.heap.size + 1) _ _ [] w4 (wcell_at HB4) (HB4.frozen 0) (wcell_at HC4) (HC4.frozen 0) (by omega))
      clear hbel HB4 HC4 hc4 HB HB3 HC3 N3 hr
      go_wp2_with fail
      refine leaves_cons (f := 61) (args := #[.pointer (some ⟨w.heap.size, 0, none⟩), .pointer (some ⟨w.heap.size + 1, 0, none⟩)]) (by simp) (by simp [go_sem]) ?_
      refine Hcat.out.mono ?_
      rintro e u' w'' ⟨rfl, rfl, rfl⟩
      simp [Leaves, settle, results, Try.results50, go_sem, s0, s1]
      exact Hfin.out

end Go.Proofs.Ytnkgcibdibgmjaa
