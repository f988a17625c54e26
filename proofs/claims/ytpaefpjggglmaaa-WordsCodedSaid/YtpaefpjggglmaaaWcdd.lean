/- The document's Coded, walked: the table, then the words' bits. -/
import Derived.Test.YtpaefpjggglmaaaWtbl
namespace Go.Proofs.Ytpaefpjggglmaaa
open Go.RowKit

/-- What is written behind the table: the bits so far; beside it, the lengths and the words. -/
structure Cd (W w : World) (t : TypeId) (g0 gw : Nat) (l V : List Int) (A : Option Addr) (m c : Nat) (tb bs : List Nat) (bit last : Nat) : Prop where
  mine : Mine W w A m c (tb ++ (bs.foldl Wd.push ([], [])).1)
  b0 : Blk w g0 t (ints l)
  bw : Blk w gw t (ints V)
  bit : (bs.foldl Wd.push ([], [])).2.length = bit
  last : Wd.num (bs.foldl Wd.push ([], [])).2 = last
  two : ∀ x ∈ bs, x < 2
theorem own_ne {w : World} {base n : Nat} {v : Value} {xs : List Value} {g : Nat} {t : TypeId} {cs : Array Value} (h : w.ownsRow base 5 1 v n xs) (hb : Blk w g t cs) (ht : t ≠ 5) : v.ownBlock ≠ some g := by
  rcases h.2 with ⟨rfl, _⟩ | ⟨g1, cap, cur, rfl, _, hc, _⟩
  · intro h; cases h
  · intro h
    have e : g1 = g := by injection h
    subst e
    have h2 : w.heap[g1]? = _ := hb
    rw [hc] at h2
    injection h2 with h2
    injection h2 with _ h3
    exact ht h3.symm
section
variable {W w : World} {t : TypeId} {g0 gw : Nat} {l V : List Int} {A : Option Addr} {m c : Nat} {tb bs : List Nat} {bit last : Nat}
theorem Cd.pk (h : Cd W w t g0 gw l V A m c tb bs bit last) : Wd.Pk bs (bs.foldl Wd.push ([], [])) := by
  have := Wd.Pk.none.pushes h.two
  rwa [List.nil_append] at this
theorem Cd.few (h : Cd W w t g0 gw l V A m c tb bs bit last) : bit ≤ 7 ∧ last < 2 ^ bit := by
  have h1 := h.pk.few
  have h2 := Wd.num_lt _ h.pk.two
  rw [h.bit] at h1 h2
  rw [h.last] at h2
  exact ⟨h1, h2⟩
theorem Cd.next (h : Cd W w t g0 gw l V A m c tb bs bit last) {b : Nat} (hb : b < 2) (h8 : bit + 1 ≠ 8) : Cd W w t g0 gw l V A m c tb (bs ++ [b]) (bit + 1) (last * 2 + b) := by
  have e : (bs ++ [b]).foldl Wd.push ([], []) = ((bs.foldl Wd.push ([], [])).1, (bs.foldl Wd.push ([], [])).2 ++ [b]) := by
    rw [List.foldl_append, List.foldl_cons, List.foldl_nil, Wd.push, if_neg (by rw [h.bit]; omega)]
  refine ⟨by rw [e]; exact h.mine, h.b0, h.bw, by rw [e, List.length_append, h.bit]; rfl, by rw [e, Wd.num_snoc, h.last], fun x hx => ?_⟩
  rcases List.mem_append.mp hx with hx | hx
  · exact h.two x hx
  · rw [List.mem_singleton] at hx; subst hx; exact hb
theorem Cd.full (h : Cd W w t g0 gw l V A m c tb bs bit last) {b : Nat} (hb : b < 2) (h8 : bit + 1 = 8) {w' : World} {A' : Option Addr} {m' c' : Nat} (hm : Mine W w' A' m' c' (tb ++ (bs.foldl Wd.push ([], [])).1 ++ [last * 2 + b])) (h0 : Blk w' g0 t (ints l)) (hw : Blk w' gw t (ints V)) :
    Cd W w' t g0 gw l V A' m' c' tb (bs ++ [b]) 0 0 := by
  have e : (bs ++ [b]).foldl Wd.push ([], []) = ((bs.foldl Wd.push ([], [])).1 ++ [last * 2 + b], []) := by
    rw [List.foldl_append, List.foldl_cons, List.foldl_nil, Wd.push, if_pos (by rw [h.bit]; omega), Wd.num_snoc, h.last]
  refine ⟨by rw [e, ← List.append_assoc]; exact hm, h0, hw, by rw [e]; rfl, by rw [e]; rfl, fun x hx => ?_⟩
  rcases List.mem_append.mp hx with hx | hx
  · exact h.two x hx
  · rw [List.mem_singleton] at hx; subst hx; exact hb
end
theorem code_is {l : List Int} {i : Nat} (h : Wd.Has l i) : (Wd.codes l).getD i 0 = ((Wd.codeV l i : Nat) : Int) := by
  have h1 := h.one
  have h2 := h.most
  have e := Wd.code_at (l := l) (i := i) (n := (l.getD i 0).toNat) h.lt (by omega) (by omega) (by omega)
  rw [e]
  rfl
theorem bit_v {v : Nat} (e : Nat) : bits BinOp.and IntKind.u8 ((v : Int) / 2 ^ e % 256) 1 = ((v / 2 ^ e % 2 : Nat) : Int) := by
  rw [shr_nat]
  generalize v / 2 ^ e = y at *
  have h : ((y : Nat) : Int) % 256 = ((y % 256 : Nat) : Int) := by omega
  have h2 := and1_u8 (show y % 256 < 256 by omega)
  rw [h, h2]
  omega
theorem or_bit8 {a b : Nat} (ha : a < 128) (hb : b < 2) : bits BinOp.or IntKind.u8 ((a : Int) * 2) (b : Int) = ((a * 2 + b : Nat) : Int) := by
  have h : ∀ a, a < 128 → ∀ b, b < 2 → bits BinOp.or IntKind.u8 (((a : Nat) : Int) * 2) ((b : Nat) : Int) = ((a * 2 + b : Nat) : Int) := by decide +kernel
  exact h a ha b hb
theorem words_snoc (l : List Int) (b : List Nat) {j : Nat} (h : j < b.length) : (b.take (j + 1)).flatMap (Wd.wordOf l) = (b.take j).flatMap (Wd.wordOf l) ++ Wd.wordOf l (b.getD j 0) := by
  rw [List.take_add_one, List.getElem?_eq_getElem h, List.flatMap_append, List.getD_eq_getElem?_getD, List.getElem?_eq_getElem h]
  simp

set_option maxRecDepth 8000 in
set_option maxHeartbeats 8000000 in
theorem rcoded_any (l : List Int) (hl : l.length = 256) (hr : ∀ x ∈ l, 0 ≤ x ∧ x ≤ 11) (hks : ksum l ≤ 2048) (b : List Nat) (hb : ∀ i ∈ b, Wd.Has l i) (hlen : b.length ≤ 4096) (A : Option Addr) (cap : Nat) {w : World} (hby : By w A cap b) :
    Calls Try.prog 12 #[.agg (ints l), .slice A b.length cap] w fun e w' => ∃ W A' n c rs, e = .returned (.slice A' n c) ∧ Below w.heap.size w W ∧ Runs l 256 rs ∧ Mine W w' A' n c (Wd.runsB rs ++ Wd.packB (b.flatMap (Wd.wordOf l))) ∧ n ≤ 1000000 := by
  obtain ⟨i0, hi0, hz0, hs0, hb0⟩ := byte_parts (P := Try.prog) (e := 5) (by kernel_rfl)
  obtain ⟨t, T, ht, hT, hagg, hix, hund, hsz, hzz⟩ := t256
  have hi16 : (Try.prog.info? t).map (·.size) = some 256 := by rw [ht]; kernel_rfl
  obtain ⟨Z, hZ⟩ : ∃ Z, Z = ints (List.replicate 256 0) := ⟨_, rfl⟩
  rw [← hZ] at hzz
  have hZs : Z.size = 256 := by rw [hZ, ints_size, List.length_replicate]
  have store : ∀ (l : List Int) (w1 : World), l.length = 256 → (storeCells ⟨w1.heap.size, 0, none⟩ (ints l).toList 0).run Try.prog (w1.alloc (.cells Z t)) = .ok () (w1.alloc (.cells (ints l) t)) := fun l w1 hl =>
    run_storeCells_new w1 t Z (ints l) (by rw [hi16, ints_size, hl]) (by rw [hZs, ints_size, hl]) (ints_one l)
  obtain ⟨N, hN⟩ : ∃ N, N = b.length := ⟨_, rfl⟩
  rw [← hN] at hlen ⊢
  have HN := Lib.hid hN
  obtain ⟨X, hX⟩ : ∃ X, X = ints l := ⟨_, rfl⟩
  have HX := Lib.hid hX
  have RT := Lib.hid (rtbl_any l hl hr)
  have WT := Lib.hid (rwords_any l hl)
  obtain ⟨V, hV⟩ : ∃ V, V = Wd.codes l := ⟨_, rfl⟩
  have hVl : V.length = 256 := by rw [hV]; exact Wd.asg_len l 12 0
  rw [← hV] at WT
  have HV := Lib.hid hV
  obtain ⟨XV, hXV⟩ : ∃ X, X = ints V := ⟨_, rfl⟩
  have hXVN : XV.size = T := by rw [hXV, ints_size, hVl, hT]
  have hXN : X.size = T := by rw [hX, ints_size, hl, hT]
  have Hst := Lib.hid (fun w1 => by have h := store V w1 hVl; rw [← hXV] at h; exact h)
  rw [← hX] at RT WT ⊢
  rw [← hXV] at WT
  have HXV := Lib.hid hXV
  have Sw := Lib.hid (fun wr (h : Below w.heap.size w wr) => hby.sl.below h)
  have Hl := Lib.hid hl
  have Hvl := Lib.hid hVl
  have Hb := Lib.hid hb
  have Hk := Lib.hid hks
  have Hix := Lib.hid hix
  have Hrr := Lib.hid hr
  have Htu := Lib.hid (show t ≠ 5 by rw [ht]; decide)
  have E1 : Op.alloc 32 = Op.alloc t := by rw [ht]
  have E2 : ∀ a b, Op.store 32 a b = Op.store t a b := by rw [ht]; exact fun _ _ => rfl
  have E3 : ∀ a b, Op.indexAddr 32 a b = Op.indexAddr t a b := by rw [ht]; exact fun _ _ => rfl
  have E4 : ∀ a, Op.load 32 a = Op.load t a := by rw [ht]; exact fun _ => rfl
  have E5 : ∀ a, Op.box 32 a = Op.box t a := by rw [ht]; exact fun _ => rfl
  obtain ⟨W0, hW0⟩ : ∃ x, x = w.alloc (.cells X t) := ⟨_, rfl⟩
  obtain ⟨g0, hg0⟩ : ∃ g, w.heap.size = g := ⟨_, rfl⟩
  have B0 := Lib.hid (show Blk W0 g0 t (ints l) by rw [hW0, ← hg0, ← hX]; exact Blk.new w t X)
  have HB := Lib.hid (show Below w.heap.size w W0 by rw [hW0]; exact (Below.refl _ _).alloc (Nat.le_refl _) _)
  have e0 : w.alloc (.cells X t) = W0 := hW0.symm
  have ld0 := load_blk (N := T) (by rw [ints_size, hl, hT]) B0.out
  rw [← hX] at ld0
  clear ht hX hix hT hW0 hl hr hZ store hi16 hN hV hVl hXV hb hks hby
  go_enter Try.func12, Try.ntmps12
  simp only [E1, E2, E3, E4, E5]
  clear E1 E2 E3 E4 E5
  go_wp2_with fail
  refine (RT.out W0).mono ?_
  rintro e w1 ⟨W, A1, m1, c1, rs, rfl, hbW, hm1, hrs, hm256⟩
  have hb1 : Below W0.heap.size W0 w1 := hbW.trans (hm1.bel.mono hbW.size)
  have B1 := Lib.hid (B0.out.keep (hb1.block _ B0.out.lt))
  have HB1 := Lib.hid (HB.out.trans (hb1.mono HB.out.size))
  have HBW := Lib.hid (show Below w.heap.size w W from HB.out.trans (hbW.mono HB.out.size))
  have hgW : g0 < W.heap.size := Nat.lt_of_lt_of_le B0.out.lt hbW.size
  have HgW := Lib.hid hgW
  have Hrs := Lib.hid hrs
  have M1 := Lib.hid hm1
  have ld1 := load_blk (N := T) (by rw [ints_size, Hl.out, ← hXN, HX.out, ints_size, Hl.out]) B1.out
  rw [← HX.out] at ld1
  clear hrs hm1 hb1 hbW ld0 e0 B0 HB hgW
  go_wp2_with fail
  refine (WT.out w1).mono ?_
  rintro e w2 ⟨rfl, hb2⟩
  have st2 := Hst.out w2
  obtain ⟨W2, hW2⟩ : ∃ x, x = w2.alloc (.cells XV t) := ⟨_, rfl⟩
  have e2 : w2.alloc (.cells XV t) = W2 := hW2.symm
  have hb2' : Below w1.heap.size w1 W2 := by rw [hW2]; exact hb2.alloc hb2.size _
  have T2 := Lib.hid (show TwoW W2 t g0 w2.heap.size l V from ⟨B1.out.keep (hb2'.block _ B1.out.lt), by rw [hW2, HXV.out]; exact Blk.new _ _ _, Hl.out, Hvl.out⟩)
  have HB2 := Lib.hid (HB1.out.trans (hb2'.mono HB1.out.size))
  have M2 := Lib.hid (M1.out.below hb2')
  clear hW2 hb2 hb2' WT RT B1 HB1 M1 ld1
  generalize hgw : w2.heap.size = gw at *
  have htu : t ≠ 5 := Htu.out
  have C0 := Lib.hid (show Cd W W2 t g0 gw l V A1 m1 c1 (Wd.runsB rs) [] 0 0 from ⟨by rw [List.foldl_nil, List.append_nil]; exact M2.out, T2.out.bl, T2.out.bw, rfl, rfl, by simp⟩)
  clear T2 M2
  go_wp2_with fail
  clear e2 st2
  go_loopg [5, 7, 8, 9] N (fun d o bt la i wr => ∃ (j m c bit last : Nat) (A : Option Addr), d = N - j ∧ j ≤ N ∧ m ≤ 256 + 11 * j ∧ i = .int .i64 j ∧ o = .slice A m c ∧ bt = .int .i64 bit ∧ la = .int .u8 last ∧ Cd W wr t g0 gw l V A m c (Wd.runsB rs) ((b.take j).flatMap (Wd.wordOf l)) bit last)
  case atStart => exact ⟨0, m1, c1, 0, 0, A1, rfl, Nat.zero_le _, by omega, rfl, rfl, rfl, rfl, C0.out⟩
  case round =>
    obtain ⟨j, m, c, bit, last, A2, rfl, hj, hm, rfl, rfl, rfl, rfl, hC⟩ := hrel
    have HC := Lib.hid hC
    have hbw : Below w.heap.size w wr := HBW.out.trans (hC.mine.bel.mono HBW.out.size)
    have HBr := Lib.hid hbw
    clear hC hbw C0 HB2 hgw
    by_cases hlt : j < N
    · have p0 : decide ((j : Int) < (N : Int)) = true := by rw [decide_eq_true_eq]; omega
      have p0' : decide (j < N) = true := by rw [decide_eq_true_eq]; omega
      have hjb : j < b.length := by rw [← HN.out]; exact hlt
      obtain ⟨bb, ob, eA, cx⟩ := sl_cell (Sw.out wr HBr.out) hjb
      have hmem : b.getD j 0 ∈ b := by rw [List.getD_eq_getElem?_getD, List.getElem?_eq_getElem hjb]; exact List.getElem_mem _
      have hh := Hb.out _ hmem
      have hws := words_snoc l b hjb
      obtain ⟨x, hxx⟩ : ∃ x, b.getD j 0 = x := ⟨_, rfl⟩
      have Hxx := Lib.hid hxx
      rw [hxx] at cx hmem hh hws
      have Hws := Lib.hid hws
      clear hws
      clear hxx
      obtain ⟨n, hn⟩ : ∃ n : Nat, l.getD x 0 = (n : Int) := ⟨(l.getD x 0).toNat, by have := hh.one; omega⟩
      have hn11 : n ≤ 11 := by have := hh.most; omega
      have hx256 := hh.lt
      obtain ⟨v, hv⟩ : ∃ v, Wd.codeV l x = v := ⟨_, rfl⟩
      have hvt := Wd.code_top Hl.out (fun y hy => (Hrr.out y hy).2) Hk.out hh
      have hvx := code_is hh
      rw [hv] at hvt hvx
      have hv2 : v < 2048 := by
        rw [hn, Int.toNat_natCast] at hvt
        have : 2 ^ n ≤ 2 ^ 11 := Nat.pow_le_pow_right (by decide) hn11
        omega
      have hwo : Wd.wordOf l x = Wd.wb v n := by unfold Wd.wordOf; rw [hv, hn, Int.toNat_natCast]
      have Hwo := Lib.hid (show (b.take (j + 1)).flatMap (Wd.wordOf l) = (b.take j).flatMap (Wd.wordOf l) ++ Wd.wb v n by rw [Hws.out, hwo])
      have Hn := Lib.hid hn
      have Hvx := Lib.hid (show V.getD x 0 = (v : Int) by rw [HV.out]; exact hvx)
      have cl := HC.out.b0.cell x
      rw [ints_at (by rw [Hl.out]; exact hx256), Hn.out] at cl
      have ixl := Hix.out .u8 x hx256 g0
      subst eA
      clear hmem hh Hws hv hvt hvx hwo hn
      go_wp2_with fail
      go_loopg [5, 7, 8, 10] n (fun d o bt la k wr => ∃ (kk m' c' bit' last' : Nat) (A' : Option Addr) (iv : Int) (bs : List Nat), d = kk ∧ kk ≤ n ∧ k = .int .i64 iv ∧ iv = (kk : Int) - 1 ∧ o = .slice A' m' c' ∧ bt = .int .i64 bit' ∧ la = .int .u8 last' ∧ m' + kk ≤ 256 + 11 * j + n ∧ bs ++ Wd.wb v kk = (b.take (j + 1)).flatMap (Wd.wordOf l) ∧ Cd W wr t g0 gw l V A' m' c' (Wd.runsB rs) bs bit' last')
      case atStart => exact ⟨n, m, c, bit, last, A2, (n : Int) - 1, _, rfl, Nat.le_refl _, by go_num, rfl, rfl, rfl, rfl, by omega, Hwo.out.symm, HC.out⟩
      case round =>
        obtain ⟨kk, m', c', bit', last', A3, iv, bs, hdk, hkk, rfl, hiv, rfl, rfl, rfl, hm', hbs, hC2⟩ := hrel
        have hdk2 := hdk.symm
        clear hdk
        subst hdk2
        have HC2 := Lib.hid hC2
        have hbw2 : Below w.heap.size w wr := HBW.out.trans (hC2.mine.bel.mono HBW.out.size)
        have HBr2 := Lib.hid hbw2
        obtain ⟨hb7, hlb⟩ := hC2.few
        have hl128 : last' < 128 := by
          have : 2 ^ bit' ≤ 2 ^ 7 := Nat.pow_le_pow_right (by decide) hb7
          omega
        clear hC2 hbw2 HC HBr cx cl ixl hlb Hwo
        have Hbs := Lib.hid hbs
        clear hbs
        cases kk with
        | zero =>
          have hiv0 : iv = -1 := by omega
          clear hiv
          subst hiv0
          go_wp2_with fail
          go_roundg (N - (j + 1))
          case rel => exact ⟨j + 1, m', c', bit', last', A3, rfl, by omega, by omega, by go_num, rfl, rfl, rfl, by have := Hbs.out; rw [Wd.wb, List.append_nil] at this; rw [← this]; exact HC2.out⟩
          case measure => omega
        | succ k1 =>
          have hiv1 : iv = (k1 : Int) := by omega
          clear hiv
          subst hiv1
          have q0 : decide ((0 : Int) ≤ (k1 : Int)) = true := by rw [decide_eq_true_eq]; omega
          obtain ⟨bt, hbt⟩ : ∃ bt, bt = v / 2 ^ k1 % 2 := ⟨_, rfl⟩
          have hbt2 : bt < 2 := by rw [hbt]; exact Nat.mod_lt _ (by decide)
          have Hbs2 := Lib.hid (show (bs ++ [bt]) ++ Wd.wb v k1 = (b.take (j + 1)).flatMap (Wd.wordOf l) by rw [← Hbs.out, Wd.wb, ← hbt, List.append_assoc]; rfl)
          obtain ⟨bb, ob, eA, cx⟩ := sl_cell (Sw.out wr HBr2.out) (show j < b.length by rw [← HN.out]; exact hlt)
          have cw := HC2.out.bw.cell x
          rw [ints_at (by rw [Hvl.out]; exact hx256), Hvx.out] at cw
          have ixw := Hix.out .u8 x hx256 gw
          cases eA
          rw [Hxx.out] at cx
          have hand := bit_v (v := v) k1
          rw [← hbt] at hand
          obtain ⟨y, hy⟩ : ∃ y, y = last' * 2 + bt := ⟨_, rfl⟩
          have hor := or_bit8 hl128 hbt2
          rw [← hy] at hor
          have hy256 : y < 256 := by omega
          have Hy := Lib.hid hy
          clear hbt Hbs hy
          by_cases h8 : bit' + 1 = 8
          · have q1 : ((bit' : Int) + 1 == 8) = true := by rw [beq_iff_eq]; omega
            have Mz := Lib.hid (HC2.out.mine.below (w' := wr.alloc (.cells #[.int .u8 (y : Int)] 5)) ((Below.refl _ _).alloc (Nat.le_refl _) _))
            have Sz := Lib.hid (sl_cells (w := wr) (cs := #[.int .u8 (y : Int)]) (l := [y]) rfl)
            have Bz0 := Lib.hid (HC2.out.b0.alloc (.cells #[.int .u8 (y : Int)] 5))
            have BzW := Lib.hid (HC2.out.bw.alloc (.cells #[.int .u8 (y : Int)] 5))
            have Ne0 := Lib.hid (own_ne Mz.out.own Bz0.out Htu.out)
            have NeW := Lib.hid (own_ne Mz.out.own BzW.out Htu.out)
            go_wp2_with (at_builtin; refine wpList_append_sl (base := W.heap.size) _ rfl (.tmp 50) (.tmp 52) _ rfl Try.underlying22 hi0 hz0 hs0 hb0 rfl rfl Mz.out.own rfl (byts_length [y]).symm (by simp) Sz.out (byts_one _) (by rw [byts_length]; exact Nat.le_refl _) (by rw [byts_length]; unfold maxLen; simp; omega) (by rw [byts_length]; simp; omega) Mz.out.bel.size ?_; intro v6 w6 h1 h2 _; obtain ⟨A6, c6, rfl, m6⟩ := Mz.out.app (r := [y]) rfl (show m' + 1 = m' + 1 from rfl) h1 h2; have C6 := Lib.hid (HC2.out.full hbt2 h8 (by rw [← Hy.out]; exact m6) (Bz0.out.grown h2 Ne0.out) (BzW.out.grown h2 NeW.out)); clear h1 h2 m6)
            go_roundg k1
            case rel => exact ⟨k1, m' + 1, c6, 0, 0, A6, (k1 : Int) - 1, bs ++ [bt], rfl, by omega, by go_num, rfl, rfl, rfl, rfl, by omega, Hbs2.out, C6.out⟩
            case measure => omega
          · have q1 : ((bit' : Int) + 1 == 8) = false := by rw [beq_eq_false_iff_ne]; omega
            go_wp2_with fail
            go_roundg k1
            case rel => exact ⟨k1, m', c', bit' + 1, y, A3, (k1 : Int) - 1, bs ++ [bt], rfl, by omega, by go_num, rfl, rfl, by go_num, rfl, by omega, Hbs2.out, by rw [Hy.out]; exact HC2.out.next hbt2 h8⟩
            case measure => omega
    · have p0 : decide ((j : Int) < (N : Int)) = false := by rw [decide_eq_false_iff_not]; omega
      have htk : b.take j = b := List.take_of_length_le (by rw [← HN.out]; omega)
      have hC := HC.out
      rw [htk] at hC
      obtain ⟨hb7, hlb⟩ := hC.few
      have HC3 := Lib.hid hC
      clear htk hC HC
      by_cases h0 : bit = 0
      · subst h0
        have Hm := Lib.hid (show Mine W wr A2 m c (Wd.runsB rs ++ Wd.packB (b.flatMap (Wd.wordOf l))) by
          unfold Wd.packB Wd.fin
          rw [if_pos HC3.out.bit]; exact HC3.out.mine)
        go_wp2_with fail
        go_returns
        exact ⟨W, A2, m, c, rs, rfl, HBW.out, Hrs.out, Hm.out, by omega⟩
      · have q2 : decide ((0 : Int) < (bit : Int)) = true := by rw [decide_eq_true_eq]; omega
        obtain ⟨y, hy⟩ : ∃ y, y = last * 2 ^ (8 - bit) := ⟨_, rfl⟩
        have Hy := Lib.hid hy
        have hy256 : y < 256 := by
          have e : 2 ^ bit * 2 ^ (8 - bit) = 256 := by rw [← Nat.pow_add, show bit + (8 - bit) = 8 by omega]
          have := (Nat.mul_lt_mul_right (Nat.pow_pos (show 0 < 2 by decide) (n := 8 - bit))).mpr hlb
          omega
        have hsh : (last : Int) * 2 ^ (8 - bit) % 256 = (y : Int) := by
          have e : (last : Int) * 2 ^ (8 - bit) = ((last * 2 ^ (8 - bit) : Nat) : Int) := by simp
          rw [e, ← hy]; omega
        clear hy hlb
        have Mz := Lib.hid (HC3.out.mine.below (w' := wr.alloc (.cells #[.int .u8 (y : Int)] 5)) ((Below.refl _ _).alloc (Nat.le_refl _) _))
        have Sz := Lib.hid (sl_cells (w := wr) (cs := #[.int .u8 (y : Int)]) (l := [y]) rfl)
        have Hp := Lib.hid (show Wd.packB (b.flatMap (Wd.wordOf l)) = ((b.flatMap (Wd.wordOf l)).foldl Wd.push ([], [])).1 ++ [y] by
          unfold Wd.packB Wd.fin
          rw [if_neg (by rw [HC3.out.bit]; exact h0), HC3.out.bit, HC3.out.last, Hy.out])
        go_wp2_with (at_builtin; refine wpList_append_sl (base := W.heap.size) _ rfl (.tmp 56) (.tmp 62) _ rfl Try.underlying22 hi0 hz0 hs0 hb0 rfl rfl Mz.out.own rfl (byts_length [y]).symm (by simp) Sz.out (byts_one _) (by rw [byts_length]; exact Nat.le_refl _) (by rw [byts_length]; unfold maxLen; simp; omega) (by rw [byts_length]; simp; omega) Mz.out.bel.size ?_; intro v6 w6 h1 h2 _; obtain ⟨A6, c6, rfl, m6⟩ := Mz.out.app (r := [y]) rfl (show m + 1 = m + 1 from rfl) h1 h2; have M6 := Lib.hid m6; clear h1 h2 m6)
        go_returns
        exact ⟨W, A6, m + 1, c6, rs, rfl, HBW.out, Hrs.out, by rw [Hp.out, ← List.append_assoc]; exact M6.out, by omega⟩
end Go.Proofs.Ytpaefpjggglmaaa
