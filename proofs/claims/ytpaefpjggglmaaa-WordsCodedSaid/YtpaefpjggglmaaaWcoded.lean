/- WordsCoded, under what the program's functions are held to. -/
import Derived.Test.YtpaefpjggglmaaaWcl
import Derived.BigRegion
import Derived.Deep.RegionLaw
import Derived.Deep.CutBlock
namespace Go.Proofs.Ytpaefpjggglmaaa
open Go.RowKit

theorem int_info' : (Try.prog.info? 3).map (fun i => (i.zero, i.size, i.bytes)) = some (some (.int .i64 0), 1, 8) := by kernel_rfl
theorem int_row' : ∃ i : TypeInfo, Try.prog.info? 3 = some i ∧ i.zero = some (.int .i64 0) ∧ i.size = 1 ∧ i.bytes = 8 := by
  obtain ⟨i, hi, hh⟩ := Option.map_eq_some_iff.1 int_info'
  simp only [Prod.mk.injEq] at hh
  exact ⟨i, hi, hh.1, hh.2.1, hh.2.2⟩
/-- A byte of a slice that may be read, later on. -/
theorem by_cell {w w' : World} {A : Option Addr} {c : Nat} {l : List Nat} (h : By w A c l) (hb : Below w.heap.size w w') {i : Nat} (hi : i < l.length) : ∃ b o, A = some ⟨b, o, none⟩ ∧ b < w.heap.size ∧ w'.cell? ⟨b, o + i, none⟩ = some (.int .u8 ((l.getD i 0 : Nat) : Int)) ∧ l.getD i 0 < 256 := by
  obtain ⟨b, o, e, hlt, hc⟩ := h.sl.at_ (i := i) (by rw [byts_length]; exact hi)
  have h0 := hc i (by rw [byts_length]; exact hi)
  refine ⟨b, o, e, hlt, ?_, getB_lt h.lt i⟩
  rw [hb.cell (p := ⟨b, o + i, none⟩) hlt, h0]
  simp [byts, List.getD_eq_getElem?_getD, List.getElem?_eq_getElem hi]

/-- A cell of a fresh row of one's own. -/
theorem mine_cell {w0 w : World} {A : Option Addr} {n c : Nat} {l : List Nat} (h : Mine w0 w A n c l) (hn : 0 < n) : ∃ g, A = some ⟨g, 0, none⟩ ∧ w0.heap.size ≤ g ∧ (∀ i, i < n → w.cell? ⟨g, i, none⟩ = some (.int .u8 ((l.getD i 0 : Nat) : Int))) ∧ (∀ i, w.frozen? ⟨g, i, none⟩ = false) ∧
    ∀ j x : Nat, Mine w0 (w.setCell ⟨g, j, none⟩ (.int .u8 (x : Int))) A n c (l.set j x) := by
  have hl := h.len
  have ho := h.own
  rcases ho.2 with ⟨h', h0⟩ | ⟨g, cap, cur, h', hg, _⟩
  · omega
  · injection h' with hA hn' hc'
    subst hA
    refine ⟨g, rfl, hg, fun i hi => ?_, fun i => h.own.frozenAt i, fun j x => ⟨?_, h.bel.setCell hg _⟩⟩
    · rw [h.own.cellAt i (by omega), byts_at (by omega)]
    · have := (h.own.stored j (.int .u8 (x : Int))).1
      rw [byts_set] at this
      exact this

set_option maxRecDepth 20000 in
set_option maxHeartbeats 16000000 in
theorem wcoded_any (hU : WUnpackC) {P : List Nat → List Nat} (hP : WPackC P) (hO : WPackOk P) {w : World} {A1 A2 : Option Addr} {c1 c2 : Nat} {nl bl : List Nat} (s1 : Sl w w.heap.size A1 (byts nl)) (l1 : ∀ x ∈ nl, x < 256) (k1 : nl.length ≤ c1) (n1 : A1 = none → c1 = 0) (s2 : Sl w w.heap.size A2 (byts bl)) (l2 : ∀ x ∈ bl, x < 256) (k2 : bl.length ≤ c2) (n2 : A2 = none → c2 = 0) (bd : Nat) (hbd : bd < 256) :
    Calls Try.prog 5 #[.slice A1 nl.length c1, .slice A2 bl.length c2, .int .u8 (bd : Int)] w fun e w' => e = .returned (.bool true) ∧ Below w.heap.size w w' := by
  have AW := Lib.hid (fun w => wawake_any hU hP hO w)
  have HU := Lib.hid hU
  have H1 := Lib.hid (fun h : nl.length ≤ 1000000 => (⟨s1, l1, k1, n1, h⟩ : By w A1 c1 nl))
  have H2 := Lib.hid (fun h : bl.length ≤ 1000000 => (⟨s2, l2, k2, n2, h⟩ : By w A2 c2 bl))
  obtain ⟨ln, hln⟩ : ∃ n, n = nl.length := ⟨_, rfl⟩
  obtain ⟨lb, hlb⟩ : ∃ n, n = bl.length := ⟨_, rfl⟩
  rw [← hln, ← hlb]
  have Hln := Lib.hid hln
  have Hlb := Lib.hid hlb
  clear hU hP hO s1 l1 k1 n1 s2 l2 k2 n2 hln hlb
  by_cases h60 : 60 < ln
  · have q1 : decide ((60 : Int) < (ln : Int)) = true := by rw [decide_eq_true_eq]; omega
    have q1' : decide (60 < ln) = true := by rw [decide_eq_true_eq]; omega
    go_enter Try.func5, Try.ntmps5
    go_wp2_with fail
    refine (AW.out _).mono ?_
    rintro e w1 ⟨rfl, hb⟩
    go_wp2_with fail
    go_ret
    exact ⟨rfl, hb⟩
  have q1 : decide ((60 : Int) < (ln : Int)) = false := by rw [decide_eq_false_iff_not]; omega
  have q1' : decide (60 < ln) = false := by rw [decide_eq_false_iff_not]; omega
  by_cases h400 : 400 < lb
  · have q2 : decide ((400 : Int) < (lb : Int)) = true := by rw [decide_eq_true_eq]; omega
    have q2' : decide (400 < lb) = true := by rw [decide_eq_true_eq]; omega
    go_enter Try.func5, Try.ntmps5
    go_wp2_with fail
    refine (AW.out _).mono ?_
    rintro e w1 ⟨rfl, hb⟩
    go_wp2_with fail
    go_ret
    exact ⟨rfl, hb⟩
  have q2 : decide ((400 : Int) < (lb : Int)) = false := by rw [decide_eq_false_iff_not]; omega
  have q2' : decide (400 < lb) = false := by rw [decide_eq_false_iff_not]; omega
  obtain ⟨i0, hi0, hz0, hs0, hb0⟩ := byte_parts (P := Try.prog) (e := 5) (by kernel_rfl)
  obtain ⟨i1, hi1, hz1, hs1, hb1⟩ := int_row'
  obtain ⟨t, N, ht, hN, hagg, hix, hund, hsz, hzz⟩ := t256
  obtain ⟨Z, hZ⟩ : ∃ Z, Z = ints (List.replicate 256 0) := ⟨_, rfl⟩
  rw [← hZ] at hzz
  have HZ := Lib.hid hZ
  have HN := Lib.hid hN
  have Hix := Lib.hid hix
  have E2 : ∀ a, Op.load 32 a = Op.load t a := by rw [ht]; exact fun _ => rfl
  have E3 : ∀ a b, Op.indexAddr 32 a b = Op.indexAddr t a b := by rw [ht]; exact fun _ _ => rfl
  have E4 : Op.alloc 32 = Op.alloc t := by rw [ht]
  clear ht hN hZ hix
  have hlnb : ln ≤ 60 := by omega
  have hlbb : lb ≤ 400 := by omega
  go_enter Try.func5, Try.ntmps5
  simp only [E2, E3, E4]
  clear E2 E3 E4
  go_wp2_with fail
  refine (AW.out _).mono ?_
  rintro e w1 ⟨rfl, hb⟩
  have HB1 := Lib.hid hb
  have Y1 := Lib.hid ((H1.out (by have := Hln.out; omega)).below hb)
  have Y2 := Lib.hid ((H2.out (by have := Hlb.out; omega)).below hb)
  have S0 := Lib.hid (show WS w1 (w1.alloc (.cells Z t)) t w1.heap.size none 0 0 [] 0 from
    ⟨(Below.refl _ _).alloc (Nat.le_refl _) _, by rw [Wd.lwK_none, ← HZ.out]; exact Blk.new _ _ _, World.ownsRow_nil _ _ _ _, rfl, by omega, List.nodup_nil, by simp⟩)
  clear hb AW H1 H2 h60 h400 q1 q1' q2 q2'
  go_upto_region 6 with fail
  generalize w1.alloc (.cells Z t) = W at *
  generalize hg : w1.heap.size = g at *
  have Hg := Lib.hid hg
  clear hg
  go_upto_block 0 with fail
  go_cut [8, 9] from 33 to 63 (fun vs vi wx => ∃ (i m c : Nat) (A : Option Addr) (sy : List Nat), vi = .int .i64 i ∧ vs = .slice A m c ∧ WS w1 wx t g A m c sy 0)
  case first =>
    go_wp2_with fail
    go_loopw [8, 9] (fun vs vi wr => ∃ (i m c : Nat) (A : Option Addr) (sy : List Nat), vi = .int .i64 i ∧ vs = .slice A m c ∧ i ≤ ln ∧ WS w1 wr t g A m c sy 0) (fun _ vi _ => ln - (intOf vi).toNat)
    case atStart => exact ⟨0, 0, 0, none, [], rfl, rfl, Nat.zero_le _, S0.out⟩
    case round =>
      obtain ⟨i, m, c, A, sy, rfl, rfl, hi, hS⟩ := hrel
      have HS := Lib.hid hS
      have hm12 := hS.few
      clear hS S0
      by_cases hil : i < ln
      · have p1 : decide ((i : Int) < (ln : Int)) = true := by rw [decide_eq_true_eq]; omega
        have p1' : decide (i < ln) = true := by rw [decide_eq_true_eq]; omega
        by_cases hml : m < 12
        · have p2 : decide ((m : Int) < 12) = true := by rw [decide_eq_true_eq]; omega
          have p2' : decide (m < 12) = true := by rw [decide_eq_true_eq]; omega
          obtain ⟨b, o, rfl, hbg, cn, hy⟩ := by_cell (w' := wr) Y1.out (by rw [Hg.out]; exact HS.out.bel) (i := i) (by rw [← Hln.out]; exact hil)
          rw [Hg.out] at hbg
          have cl := HS.out.at_ hy
          rw [Wd.lwK_at hy] at cl
          have fl := HS.out.blk.frozen (nl.getD i 0)
          have ix := Hix.out .u8 _ hy g
          generalize nl.getD i 0 = y at *
          by_cases hmem : y ∈ sy
          · rw [if_pos hmem, if_neg (by omega)] at cl
            clear hmem hbg
            go_wp2_with fail
            go_roundw
            case rel => exact ⟨i + 1, m, c, A, sy, by go_num, rfl, by omega, HS.out⟩
            case measure => simp [intOf]; omega
          · rw [if_neg hmem] at cl
            have Hmem := Lib.hid hmem
            have cn5 : (wr.setCell ⟨g, y, none⟩ (.int .i64 1)).cell? ⟨b, o + i, none⟩ = some (.int .u8 (y : Int)) := by
              rw [World.cell?_setCell_other _ _ _ _ (by intro e; injection e with e _ _; omega)]; exact cn
            have Hown := Lib.hid ((own_far HS.out.own (p := ⟨g, y, none⟩) HS.out.far (.int .i64 1)).alloc (.cells #[.int .i64 (y : Int)] 3))
            have hsz5 : (wr.setCell ⟨g, y, none⟩ (.int .i64 1)).heap.size = wr.heap.size := by simp
            have hgw : g + 1 ≤ wr.heap.size := HS.out.gl
            have Hmk := Lib.hid (fun (v' : Value) (w' : World) => HS.out.mark (w' := w') (v' := v') hy Hmem.out hml (o := .cells #[.int .i64 (y : Int)] 3))
            have Hsl := Lib.hid (show Sl ((wr.setCell ⟨g, y, none⟩ (.int .i64 1)).alloc (.cells #[.int .i64 (y : Int)] 3)) ((wr.setCell ⟨g, y, none⟩ (.int .i64 1)).alloc (.cells #[.int .i64 (y : Int)] 3)).heap.size (some ⟨wr.heap.size, 0, none⟩) [.int .i64 (y : Int)] from
              .inr ⟨wr.heap.size, 0, rfl, by rw [World.size_alloc, hsz5]; omega, fun j hj => by
                have : j = 0 := by simpa using hj
                subst this; rw [cell_fresh hsz5.symm]; rfl⟩)
            clear hmem hbg
            go_upto_region 12 with fail
            clear cn cl fl
            generalize wr.setCell ⟨g, y, none⟩ (.int .i64 1) = w5 at *
            go_wp2_with (at_builtin; go_loud (refine wpList_append_sl (base := g + 1) _ rfl (.tmp 56) (.tmp 62) _ rfl Try.underlying33 hi1 hz1 hs1 hb1 rfl rfl Hown.out rfl rfl (by simp) Hsl.out (by simp [Value.oneCell']) (by simp) (by unfold maxLen; simp; omega) (by simp; omega) (by rw [World.size_alloc, hsz5]; omega) ?_); intro v2 w2 hown2 hgr hbl)
            obtain ⟨A', c', rfl, hS2⟩ := Hmk.out v2 w2 (by simpa using hown2) hgr
            have HS2 := Lib.hid hS2
            clear hown2 hgr hbl hS2
            go_wp2_with fail
            go_roundw
            case rel => exact ⟨i + 1, m + 1, c', A', sy ++ [y], by go_num, rfl, by omega, HS2.out⟩
            case measure => simp [intOf]; omega
        · have p2 : decide ((m : Int) < 12) = false := by rw [decide_eq_false_iff_not]; omega
          have p2' : decide (m < 12) = false := by rw [decide_eq_false_iff_not]; omega
          go_wp2_with fail
          go_meet
          exact ⟨i, m, c, A, sy, rfl, rfl, HS.out⟩
      · have p1 : decide ((i : Int) < (ln : Int)) = false := by rw [decide_eq_false_iff_not]; omega
        have p1' : decide (i < ln) = false := by rw [decide_eq_false_iff_not]; omega
        go_wp2_with fail
        go_meet
        exact ⟨i, m, c, A, sy, rfl, rfl, HS.out⟩
  case rest =>
    obtain ⟨i, m, c, A, sy, rfl, rfl, hS⟩ := hcut
    have HS := Lib.hid hS
    have hm12 := hS.few
    have hgw : w.heap.size ≤ g := by have := HB1.out.size; have := Hg.out; omega
    clear hS S0
    rcases Nat.eq_zero_or_pos m with h0 | h0
    · subst h0
      have HBe := Lib.hid (HB1.out.trans (HS.out.bel.mono hgw))
      go_wp2_with fail
      go_ret
      exact ⟨rfl, HBe.out⟩
    have hm0b : ((m : Int) == 0) = false := by rw [beq_eq_false_iff_ne]; omega
    go_wp2_with fail
    go_loopw [10] (fun vk wr => ∃ k : Nat, vk = .int .i64 k ∧ k ≤ m ∧ WS w1 wr t g A m c sy k) (fun vk _ => m - (intOf vk).toNat)
    case atStart => exact ⟨0, rfl, Nat.zero_le _, HS.out⟩
    case round =>
      obtain ⟨k, rfl, hk, hS2⟩ := hrel
      have HS2 := Lib.hid hS2
      clear hS2 HS
      by_cases hkm : k < m
      · have hkz : (k : Int) < (m : Int) := by omega
        obtain ⟨b, rfl, cs, hs⟩ := HS2.out.sym hkm
        have cl := HS2.out.at_ hs
        have fl := HS2.out.blk.frozen (sy.getD k 0)
        have ix := Hix.out .i64 _ hs g
        have HS3 := Lib.hid (HS2.out.set_ hkm)
        generalize (Wd.lwK sy k).getD (sy.getD k 0) 0 = y0 at *
        generalize sy.getD k 0 = s at *
        obtain ⟨q, hq⟩ : ∃ q : Int, (if (m : Int) - 1 < (k : Int) + 1 then (m : Int) - 1 else (k : Int) + 1) = q := ⟨_, rfl⟩
        have hmx : (if q > (1 : Int) then q else (1 : Int)) = ((Wd.fS m k : Nat) : Int) := by unfold Wd.fS; split at hq <;> split <;> omega
        have hmin : ∀ (ts : Array TypeId) (t : TypeId) (W : World), (Builtin.min_ ts t #[.int .i64 ((k : Int) + 1), .int .i64 ((m : Int) - 1)]).run Try.prog W = .ok (.int .i64 q) W := fun ts t W => by rw [run_min_int2, hq]
        have hmax : ∀ (ts : Array TypeId) (t : TypeId) (W : World), (Builtin.max_ ts t #[.int .i64 1, .int .i64 q]).run Try.prog W = .ok (.int .i64 ((Wd.fS m k : Nat) : Int)) W := fun ts t W => by rw [run_max_int2, hmx]
        generalize Wd.fS m k = fk at *
        clear hq hmx
        go_wp2_with fail
        go_roundw
        case rel => exact ⟨k + 1, by go_num, by omega, HS3.out⟩
        case measure => simp [intOf]; omega
      · have hkz : ¬ (k : Int) < (m : Int) := by omega
        obtain rfl : k = m := by omega
        have hk0 := h0
        generalize hw3 : wr = w3 at *
        have M0 := Lib.hid (show Mine w3 w3 none 0 0 (inV sy (bl.take 0)) from ⟨World.ownsRow_nil _ _ _ _, Below.refl _ _⟩)
        clear hw3 hkz
        go_wp2_with fail
        go_loopw [11, 12] (fun vs vi wr => ∃ (i c' : Nat) (A' : Option Addr), vi = .int .i64 i ∧ vs = .slice A' i c' ∧ i ≤ lb ∧ Mine w3 wr A' i c' (inV sy (bl.take i))) (fun _ vi _ => lb - (intOf vi).toNat)
        case atStart => exact ⟨0, 0, none, rfl, rfl, Nat.zero_le _, M0.out⟩
        case round =>
          obtain ⟨i, c', A', rfl, rfl, hi, hM⟩ := hrel
          have HM := Lib.hid hM
          clear hM M0
          by_cases hil : i < lb
          · have hiz : (i : Int) < (lb : Int) := by omega
            have hib : i < bl.length := by rw [← Hlb.out]; exact hil
            have hgw3 : g ≤ w3.heap.size := Nat.le_of_lt HS2.out.gl
            have HSr := Lib.hid (HS2.out.below HM.out.bel)
            obtain ⟨b, o, rfl, hbg, cb, hx⟩ := by_cell (w' := wr) Y2.out (by rw [Hg.out]; exact HSr.out.bel) hib
            have Nx := Lib.hid (inV_next sy hib)
            generalize bl.getD i 0 = x at *
            obtain ⟨p, hp⟩ : ∃ p : Nat, p = x % k := ⟨_, rfl⟩
            have hpI : (x : Int) % (k : Int) = (p : Int) := by rw [hp]; simp
            have hpk : p < k := by rw [hp]; exact Nat.mod_lt _ h0
            obtain ⟨b', rfl, cs, hs⟩ := HSr.out.sym hpk
            rw [HSr.out.len, ← hp] at Nx
            generalize sy.getD p 0 = s at *
            have hs8 : IntKind.u8.wrap (s : Int) = (s : Int) := by rw [IntKind.wrap_u8]; omega
            have Mz := Lib.hid (HM.out.below (w' := wr.alloc (.cells #[.int .u8 (s : Int)] 5)) ((Below.refl _ _).alloc (Nat.le_refl _) _))
            have Sz := Lib.hid (sl_cells (w := wr) (cs := #[.int .u8 (s : Int)]) (l := [s]) rfl)
            clear hp hbg
            go_wp2_with (at_builtin; refine wpList_append_sl (base := w3.heap.size) _ rfl (.tmp 91) (.tmp 104) _ rfl Try.underlying22 hi0 hz0 hs0 hb0 rfl rfl Mz.out.own rfl (byts_length [s]).symm (by simp) Sz.out (byts_one _) (by rw [byts_length]; exact Nat.le_refl _) (by rw [byts_length]; unfold maxLen; simp; omega) (by rw [byts_length]; simp; omega) Mz.out.bel.size ?_; intro v2 w2 hown2 hgr hbl)
            obtain ⟨A6, c6, rfl, m6⟩ := Mz.out.app (r := [s]) rfl rfl hown2 hgr
            have M6 := Lib.hid m6
            clear hown2 hgr hbl m6
            go_wp2_with fail
            go_roundw
            case rel => exact ⟨i + 1, c6, A6, by go_num, rfl, by omega, by rw [Nx.out]; exact M6.out⟩
            case measure => simp [intOf]; omega
          · have hiz : ¬ (i : Int) < (lb : Int) := by omega
            obtain rfl : i = lb := by omega
            have HSr := Lib.hid (HS2.out.below HM.out.bel)
            obtain ⟨xs, hxs⟩ : ∃ xs, xs = inV sy bl := ⟨_, rfl⟩
            have hM2 := HM.out
            rw [Hlb.out, List.take_length, ← hxs, ← Hlb.out] at hM2
            have HM2 := Lib.hid hM2
            have hxl : xs.length = i := hM2.len
            have hsym := inV_mem (sy := sy) (by rw [HSr.out.len]; exact h0) bl
            rw [← hxs] at hsym
            have hlc := Wd.lw_code HSr.out.nodup HSr.out.lt (by rw [HSr.out.len]; exact h0) (by rw [HSr.out.len]; exact hm12)
            rw [HSr.out.len] at hlc
            obtain ⟨L, hL⟩ : ∃ L, L = Wd.lwK sy k := ⟨_, rfl⟩
            rw [← hL] at hlc
            obtain ⟨lc1, lc2, lc3, lc4⟩ := hlc
            have hLl : L.length = 256 := by rw [hL]; exact Wd.lwK_len _ _
            have hHas : ∀ x ∈ xs, Wd.Has L x := fun x hx => lc4 x (hsym x hx)
            have hx256 : ∀ x ∈ xs, x < 256 := fun x hx => (hHas x hx).lt
            have hBlk := HSr.out.blk
            rw [← hL] at hBlk
            have ld := load_blk (N := N) (by rw [ints_size, hLl, HN.out]) hBlk
            have X3 := Lib.hid (By.of_own HM2.out.own hx256 (by rw [hxl]; omega))
            have CD := Lib.hid (rcoded_any L hLl lc3 lc1 xs hHas (by rw [hxl]; omega) A' c' X3.out)
            rw [hxl] at CD
            have HHas := Lib.hid hHas
            have Hxl := Lib.hid hxl
            have Hlc2 := Lib.hid lc2
            have HLl := Lib.hid hLl
            have HBk := Lib.hid hBlk
            have hgwr : g < wr.heap.size := HSr.out.gl
            have HBr := Lib.hid (HSr.out.bel)
            have Hx256 := Lib.hid hx256
            clear hM2 hsym lc1 lc2 lc3 lc4 hHas hx256 hBlk HM hxl hLl hiz hL hxs HS2 HSr
            obtain ⟨Ci, hCi⟩ : ∃ C, C = ints L := ⟨_, rfl⟩
            rw [← hCi] at ld CD
            clear hCi
            go_wp2_with fail
            refine CD.out.mono ?_
            rintro e w7 ⟨Wz, A7, zl, c7, rs, rfl, hbz, hrs, hmz, hzl⟩
            have hcode : Wd.Code L rs := ⟨HLl.out, by rw [hrs.are, List.take_of_length_le (by rw [HLl.out]; exact Nat.le_refl _)], hrs.fits, Hlc2.out⟩
            have htwo := Wd.words_two L xs
            obtain ⟨z, hz⟩ : ∃ z, z = Wd.runsB rs ++ Wd.packB (xs.flatMap (Wd.wordOf L)) := ⟨_, rfl⟩
            rw [← hz] at hmz
            have hzlen := hmz.len
            have hbk := bitsK_all L xs
            have hbk2 := bitsK_le L xs HHas.out xs.length (Nat.le_refl _)
            have hz256 : ∀ x ∈ z, x < 256 := fun x hx => by
              rw [hz] at hx
              rcases List.mem_append.1 hx with hx | hx
              · exact Wd.runsB_lt hrs.fits x hx
              · exact Wd.packB_lt htwo x hx
            have hzs : zl ≤ 1000 := by
              have a1 := Wd.runs_few hrs.fits
              rw [hcode.runs, HLl.out] at a1
              have a2 := Wd.packB_len htwo
              have a3 := Hxl.out
              rw [← hzlen, hz, List.length_append]
              unfold Wd.runsB
              rw [List.length_map]
              omega
            have HBz := Lib.hid (hbz.trans (hmz.bel.mono hbz.size))
            have Z7 := Lib.hid (By.of_own hmz.own hz256 (by rw [hzlen]; omega))
            have HBack := Lib.hid (show Wd.unpack z ((i : Nat) : Int) = (xs, 0) by rw [hz, ← Hxl.out]; exact hcode.back HHas.out (by rw [Hxl.out]; omega))
            have HLong := Lib.hid (show Wd.unpack (z ++ [0]) ((i : Nat) : Int) = ([], 3) by rw [hz, ← Hxl.out, List.append_assoc]; exact hcode.long HHas.out (by rw [Hxl.out]; omega) 0)
            have HTail := Lib.hid (show (xs.flatMap (Wd.wordOf L)).length % 8 ≠ 0 → ∃ (z0 : List Nat) (v : Nat), z = z0 ++ [v] ∧ v < 256 ∧ ∀ j, j < 8 - (xs.flatMap (Wd.wordOf L)).length % 8 → v + 2 ^ j < 256 ∧ bits BinOp.or IntKind.u8 (v : Int) ((2 ^ j : Nat) : Int) = ((v + 2 ^ j : Nat) : Int) ∧ Wd.unpack (z0 ++ [v + 2 ^ j]) ((i : Nat) : Int) = ([], 4) from fun hr => by
              obtain ⟨p0, v, e1, e2, e3⟩ := Wd.pack_tail htwo hr
              refine ⟨Wd.runsB rs ++ p0, v, by rw [hz, e1, List.append_assoc], e2, fun j hj => ?_⟩
              obtain ⟨f1, f2, rest, f3, f4, f5⟩ := e3 j hj
              refine ⟨f1, f2, ?_⟩
              rw [List.append_assoc, ← Hxl.out]
              exact hcode.form HHas.out (by rw [Hxl.out]; omega) f5 f3 f4)
            have HShort := Lib.hid (show 0 < (xs.flatMap (Wd.wordOf L)).length → Wd.unpack (z.take (zl - 1)) ((i : Nat) : Int) = ([], 2) from fun hp => by
              obtain ⟨p0, v, q, e1, e2, e3⟩ := Wd.pack_init htwo (fun e => by rw [e] at hp; exact absurd hp (by decide))
              have hzz : z = (Wd.runsB rs ++ p0) ++ [v] := by rw [hz, e1, List.append_assoc]
              have : z.take (zl - 1) = Wd.runsB rs ++ p0 := by
                rw [← hzlen]
                conv => lhs; rw [hzz]
                rw [List.take_left' (by simp)]
              rw [this, ← Hxl.out]
              exact hcode.short HHas.out (by rw [Hxl.out]; omega) e2 e3)
            have HPos := Lib.hid (show 0 < (xs.flatMap (Wd.wordOf L)).length → 1 ≤ zl from fun hp => by
              obtain ⟨p0, v, q, e1, e2, e3⟩ := Wd.pack_init htwo (fun e => by rw [e] at hp; exact absurd hp (by decide))
              rw [← hzlen, hz, e1]; simp; omega)
            obtain ⟨bt, hbt⟩ : ∃ bt, bt = (xs.flatMap (Wd.wordOf L)).length := ⟨_, rfl⟩
            rw [← hbt] at hbk HTail HShort HPos
            rw [hbk] at hbk2
            have hbt4 : bt ≤ 4400 := by have := Hxl.out; omega
            have Hbk := Lib.hid hbk
            have Hz256 := Lib.hid hz256
            have Hzlen := Lib.hid hzlen
            have X7 := Lib.hid (X3.out.below HBz.out)
            have B7 := Lib.hid (HBk.out.keep (HBz.out.block g hgwr))
            have HB7 := Lib.hid (show Below w.heap.size w w7 from (HB1.out.trans (HBr.out.mono hgw)).trans (HBz.out.mono (by omega)))
            have hgw7 : g < w7.heap.size := B7.out.lt
            have K1 := Lib.hid ((HU.out w7 A7 c7 z (i : Int) zl Z7.out (by omega) hzlen.symm).mono fun e w' h => unpR_is HBack.out h)
            rw [Hxl.out] at K1
            clear hcode htwo hz hmz hbk hbk2 hz256 hzlen hbt hbz hrs CD X3 HBk HBr HB1 hzl HBack
            go_wp2_with fail
            refine K1.out.mono ?_
            rintro e w8 ⟨A8, c8, rfl, y8, b8⟩
            have Y8 := Lib.hid y8
            have Z8 := Lib.hid (Z7.out.below b8)
            have X8 := Lib.hid (X7.out.below b8)
            have B8 := Lib.hid (B7.out.keep (b8.block g hgw7))
            have HB8 := Lib.hid (HB7.out.trans (b8.mono HB7.out.size))
            have hgw8 : g < w8.heap.size := B8.out.lt
            have Mz := Lib.hid (mine_empty (w0 := w8) (Below.refl _ w8))
            have Lz := Lib.hid (show (byts z).length = zl by rw [byts_length, Hzlen.out])
            have hzc : zl ≤ c7 := by have := Z7.out.cap; have := Hzlen.out; omega
            have hzn := Z7.out.nil
            clear y8 b8 K1 Z7 X7 B7 HB7
            go_wp2_with (first
              | (at_builtin; refine wpList_append_sl (base := w8.heap.size) _ rfl (.tmp 117) (.tmp 118) _ rfl Try.underlying22 hi0 hz0 hs0 hb0 rfl rfl Mz.out.own rfl Lz.out.symm hzn (Z8.out.sl.below ((Below.refl _ w8).alloc (Nat.le_refl _) _)) (byts_one _) (by rw [Lz.out]; exact hzc) (by rw [Lz.out]; unfold maxLen; omega) (by rw [Lz.out]; omega) Mz.out.bel.size ?_; intro v9 w9 ho9 hg9 hx9; obtain ⟨A9, c9, rfl, m9⟩ := Mz.out.app (r := z) (n' := zl) Hzlen.out (by omega) ho9 hg9; have M9 := Lib.hid m9; have M9a := Lib.hid (m9.below (w' := w9.alloc (.cells #[.int .u8 0] 5)) ((Below.refl _ _).alloc (Nat.le_refl _) _)); have S9 := Lib.hid (sl_cells (w := w9) (cs := #[.int .u8 0]) (l := [0]) rfl); clear ho9 hg9 hx9 m9)
              | (at_builtin; refine wpList_append_sl (base := w8.heap.size) _ rfl (.tmp 119) (.tmp 120) _ rfl Try.underlying22 hi0 hz0 hs0 hb0 rfl rfl M9a.out.own rfl (byts_length [0]).symm (by simp) S9.out (byts_one _) (by rw [byts_length]; exact Nat.le_refl _) (by rw [byts_length]; unfold maxLen; simp; omega) (by rw [byts_length]; simp; omega) M9a.out.bel.size ?_; intro v10 w10 ho10 hg10 hx10; obtain ⟨A10, c10, rfl, m10⟩ := M9a.out.app (r := [0]) (n' := zl + 1) rfl rfl ho10 hg10; have M10 := Lib.hid m10; clear ho10 hg10 hx10 m10))
            have Z10 := Lib.hid (By.of_own M10.out.own (fun x hx => by
              rcases List.mem_append.1 hx with hx | hx
              · exact Hz256.out x hx
              · rw [List.mem_singleton] at hx; omega) (by have := Hzlen.out; simp; omega))
            have K2 := Lib.hid ((HU.out w10 A10 c10 (z ++ [0]) (i : Int) (zl + 1) Z10.out (by have := Hzlen.out; simp; omega) (by have := Hzlen.out; simp; omega)).mono fun e w' h => unpR_err HLong.out h)
            refine K2.out.mono ?_
            rintro e w11 ⟨A11, c11, rfl, y11, b11⟩
            have b810 := M10.out.bel.trans (b11.mono M10.out.bel.size)
            have Y11 := Lib.hid (Y8.out.below b810)
            have X11 := Lib.hid (X8.out.below b810)
            have Z11 := Lib.hid (Z8.out.below b810)
            have B11 := Lib.hid (B8.out.keep (b810.block g hgw8))
            have HB11 := Lib.hid (HB8.out.trans (b810.mono HB8.out.size))
            clear y11 b11 b810 K2 Z10 M10 M9 M9a S9 Mz Lz Y8 X8 Z8 B8 HB8 HLong
            go_wp2_with fail
            go_loop [18, 19] (fun vb vj => ∃ j : Nat, vj = .int .i64 j ∧ j ≤ i ∧ vb = .int .i64 ((bitsK L xs j : Nat) : Int)) (fun _ vj => i - (intOf vj).toNat)
            case atStart => exact ⟨0, rfl, Nat.zero_le _, rfl⟩
            case round =>
              obtain ⟨j, rfl, hj, rfl⟩ := hrel
              have hbj := bitsK_le L xs HHas.out j (by rw [Hxl.out]; exact hj)
              by_cases hji : j < i
              · have hjz : (j : Int) < (i : Int) := by omega
                have hjx : j < xs.length := by rw [Hxl.out]; exact hji
                obtain ⟨b, o, rfl, -, cx, hx⟩ := by_cell (w' := w11) X11.out (Below.refl _ _) hjx
                have hh := HHas.out _ (Wd.mem_at hjx)
                have ho := hh.one
                have hm := hh.most
                have cl := B11.out.cell (xs.getD j 0)
                rw [ints_at (by rw [HLl.out]; exact hx)] at cl
                have ix := Hix.out .u8 _ hx g
                have Nx := Lib.hid (bitsK_next L hjx)
                generalize xs.getD j 0 = y at *
                obtain ⟨v, hv⟩ : ∃ v : Nat, L.getD y 0 = (v : Int) := ⟨(L.getD y 0).toNat, by omega⟩
                rw [hv] at cl ho hm Nx
                rw [Int.toNat_natCast] at Nx
                generalize bitsK L xs j = s0 at *
                clear hh hv hjx
                go_wp2_with fail
                go_round
                case rel => exact ⟨j + 1, by go_num, by omega, by rw [Nx.out]; go_num⟩
                case measure => simp [intOf]; omega
              · have hjz : ¬ (j : Int) < (i : Int) := by omega
                obtain rfl : j = i := by omega
                have hbb : bitsK L xs j = bt := by rw [← Hxl.out]; exact Hbk.out
                rw [hbb]
                clear hbb hbj hjz
                rcases Nat.eq_zero_or_pos bt with hbt0 | hbt0
                · subst hbt0
                  have k1 := conv_b (cap := c8) (Y11.out.sl)
                  have k2 := conv_b (cap := c') (X11.out.sl)
                  rw [Hxl.out] at k1 k2
                  generalize bstr xs = st at *
                  go_wp2_with fail
                  go_ret
                  exact ⟨rfl, HB11.out⟩
                · have r1 : decide ((0 : Int) < (bt : Int)) = true := by rw [decide_eq_true_eq]; omega
                  have r1' : decide (0 < bt) = true := by rw [decide_eq_true_eq]; omega
                  obtain ⟨r, hr⟩ : ∃ r : Nat, r = bt % 8 := ⟨_, rfl⟩
                  have hrI : (bt : Int) % 8 = (r : Int) := by rw [hr]; simp
                  by_cases hr0 : r = 0
                  · have Hr0 := Lib.hid (show (bt : Int) % 8 = 0 by rw [hrI, hr0]; rfl)
                    clear hrI hr hr0
                    go_upto_if 143 with fail
                    rw [Hr0.out]

                    obtain ⟨zi, hzi⟩ : ∃ zi, zi = zl - 1 := ⟨_, rfl⟩
                    have zz : (zl : Int) - 1 = (zi : Int) := by have := HPos.out (by omega); omega
                    have hzc' : zi ≤ c7 := by omega
                    have cut := run_slice_to (P := Try.prog) Try.underlying22 hi0 A7 zl c7 zi hzc'
                    have Zt := Lib.hid (Z11.out.to zi)
                    have HSh := Lib.hid (show Wd.unpack (z.take zi) ((j : Nat) : Int) = ([], 2) by rw [hzi]; exact HShort.out (by omega))
                    have Kt := Lib.hid ((HU.out w11 A7 c7 (z.take zi) (j : Int) zi Zt.out (by rw [List.length_take, Hzlen.out]; omega) (by rw [List.length_take, Hzlen.out]; omega)).mono fun e w' h => unpR_err HSh.out h)
                    clear hzi Zt HSh
                    go_wp2_with fail
                    refine Kt.out.mono ?_
                    rintro e w20 ⟨A20, c20, rfl, y20, b20⟩
                    have k1 := conv_b (cap := c8) ((Y11.out.below b20).sl)
                    have k2 := conv_b (cap := c') ((X11.out.below b20).sl)
                    rw [Hxl.out] at k1 k2
                    have HBe := Lib.hid (HB11.out.trans (b20.mono HB11.out.size))
                    generalize bstr xs = st at *
                    clear y20 b20 Kt
                    go_wp2_with fail
                    go_ret
                    exact ⟨rfl, HBe.out⟩
                  · have hr8 : r < 8 := by omega
                    have hrd : bt % 8 ≠ 0 := by omega
                    obtain ⟨z0, v, hzv, hv, hOr⟩ := HTail.out hrd
                    rw [← hr] at hOr
                    obtain ⟨d, hd⟩ : ∃ d, d = 8 - r := ⟨_, rfl⟩
                    rw [← hd] at hOr
                    obtain ⟨q, hq⟩ : ∃ q, q = bd % d := ⟨_, rfl⟩
                    have hqd : q < d := by rw [hq]; exact Nat.mod_lt _ (by omega)
                    have hqI : (bd : Int) % (d : Int) = (q : Int) := by rw [hq]; simp
                    obtain ⟨o1, o2, o3⟩ := hOr q hqd
                    obtain ⟨Q, hQ⟩ : ∃ Q : Nat, Q = 2 ^ q := ⟨_, rfl⟩
                    rw [← hQ] at o1 o2 o3
                    have hQI : (2 : Int) ^ q = (Q : Int) := by rw [hQ]; simp
                    obtain ⟨vq, hvq⟩ : ∃ x, x = v + Q := ⟨_, rfl⟩
                    rw [← hvq] at o1 o2 o3
                    have HO3 := Lib.hid o3
                    have Hzv := Lib.hid hzv
                    have HrI := Lib.hid hrI
                    have hrne : ((r : Int) != 0) = true := by rw [bne_iff_ne]; omega
                    have hQb : Q < 256 := by omega
                    have hd1 : 1 ≤ d ∧ d ≤ 8 := by omega
                    have hdI : (8 : Int) - (r : Int) = (d : Int) := by omega
                    obtain ⟨zi, hzi⟩ : ∃ zi, zi = zl - 1 := ⟨_, rfl⟩
                    have zz : (zl : Int) - 1 = (zi : Int) := by have := HPos.out (by omega); omega
                    have hzi1 : zi + 1 = zl := by have := HPos.out (by omega); omega
                    have Hzi := Lib.hid hzi
                    have M11 := Lib.hid (mine_empty (w0 := w11) (Below.refl _ w11))
                    have Lz := Lib.hid (show (byts z).length = zl by rw [byts_length, Hzlen.out])
                    clear hrI hr hr0 hrd hzv hOr hd hq o3 hQ hzi hvq
                    go_upto_if 143 with fail
                    rw [HrI.out]
                    go_upto_region 35 with (first
                      | (at_builtin; refine wpList_append_sl (base := w11.heap.size) _ rfl (.tmp 144) (.tmp 145) _ rfl Try.underlying22 hi0 hz0 hs0 hb0 rfl rfl M11.out.own rfl Lz.out.symm hzn (Z11.out.sl.below ((Below.refl _ w11).alloc (Nat.le_refl _) _)) (byts_one _) (by rw [Lz.out]; exact hzc) (by rw [Lz.out]; unfold maxLen; omega) (by rw [Lz.out]; omega) M11.out.bel.size ?_; intro v12 w12 ho12 hg12 hx12; obtain ⟨A12, c12, rfl, m12⟩ := M11.out.app (r := z) (n' := zl) Hzlen.out (by omega) ho12 hg12; have M12 := Lib.hid m12; clear ho12 hg12 hx12 m12))
                    obtain ⟨gb, rfl, hgb, hcell, hfrz, hset⟩ := mine_cell M12.out (by omega)
                    have cz := hcell zi (by omega)
                    have fz := hfrz zi
                    have Mst := Lib.hid (hset zi vq)
                    have hval : ([] ++ z).getD zi 0 = v := by
                      have hl0 := congrArg List.length Hzv.out
                      rw [Hzlen.out, List.length_append, List.length_singleton] at hl0
                      rw [List.nil_append, Hzv.out, List.getD_eq_getElem?_getD, List.getElem?_append_right (by omega), show zi - z0.length = 0 by omega]; rfl
                    have hlist : ([] ++ z).set zi vq = z0 ++ [vq] := by
                      have hl0 := congrArg List.length Hzv.out
                      rw [Hzlen.out, List.length_append, List.length_singleton] at hl0
                      rw [List.nil_append, Hzv.out, List.set_append_right _ _ (by omega), show zi - z0.length = 0 by omega]; rfl
                    rw [hval] at cz
                    rw [hlist] at Mst
                    have hrI := HrI.out
                    have g1 : IntKind.i64.wrap ((zl : Int) - 1) = (zi : Int) := by rw [zz, IntKind.wrap_i64]; omega
                    have g2 : IntKind.i64.wrap ((8 : Int) - (r : Int)) = (d : Int) := by rw [hdI, IntKind.wrap_i64]; omega
                    have g3 : IntKind.i64.wrap (r : Int) = (r : Int) := by rw [IntKind.wrap_i64]; omega
                    have g4 : IntKind.u64.wrap (d : Int) = (d : Int) := by rw [IntKind.wrap_u64]; omega
                    have g5 : IntKind.u64.wrap (bd : Int) = (bd : Int) := by rw [IntKind.wrap_u64]; omega
                    have g6 : IntKind.u64.wrap (q : Int) = (q : Int) := by rw [IntKind.wrap_u64]; omega
                    have g7 : IntKind.u8.wrap (Q : Int) = (Q : Int) := by rw [IntKind.wrap_u8]; omega
                    have g8 : IntKind.i64.wrap (zi : Int) = (zi : Int) := by rw [IntKind.wrap_i64]; omega
                    have g9 : ((d : Int) == 0) = false := by rw [beq_eq_false_iff_ne]; omega
                    clear hval hlist hcell hfrz hset
                    go_region
                    clear g1 g2 g3 g4 g5 g6 g7 g8 g9 cz fz o2 hrne hrI hqI hQI hdI
                    have MdO := Lib.hid (Mst.out.below (w' := (w12.setCell ⟨gb, zi, none⟩ (.int .u8 (vq : Int))).drew) ((Below.refl _ _).drew))
                    generalize (w12.setCell ⟨gb, zi, none⟩ (.int .u8 (vq : Int))).drew = wd at *
                    have hl1 : z0.length + 1 = zl := by
                      have hl0 := congrArg List.length Hzv.out
                      rw [Hzlen.out, List.length_append, List.length_singleton] at hl0
                      exact hl0.symm
                    have Zd := Lib.hid (By.of_own MdO.out.own (fun x hx => by
                      rcases List.mem_append.1 hx with hx | hx
                      · exact Hz256.out x (by rw [Hzv.out]; exact List.mem_append.2 (.inl hx))
                      · rw [List.mem_singleton] at hx; omega) (by simp; omega))
                    have K4 := Lib.hid ((HU.out wd (some ⟨gb, 0, none⟩) c12 (z0 ++ [vq]) (j : Int) zl Zd.out (by simp; omega) (by simp; omega)).mono fun e w' h => unpR_err HO3.out h)
                    clear Mst Zd HO3 M12 Lz M11 HTail hl1 o1
                    go_wp2_with fail
                    refine K4.out.mono ?_
                    rintro e w13 ⟨A13, c13, rfl, y13, b13⟩
                    have b1113 := MdO.out.bel.trans (b13.mono MdO.out.bel.size)
                    have Y13 := Lib.hid (Y11.out.below b1113)
                    have X13 := Lib.hid (X11.out.below b1113)
                    have Z13 := Lib.hid (Z11.out.below b1113)
                    have HB13 := Lib.hid (HB11.out.trans (b1113.mono HB11.out.size))
                    clear y13 b13 b1113 K4 MdO Y11 X11 Z11 B11 HB11
                    have hzi := Hzi.out
                    have hzc' : zi ≤ c7 := by omega
                    have cut := run_slice_to (P := Try.prog) Try.underlying22 hi0 A7 zl c7 zi hzc'
                    have Zt := Lib.hid (Z13.out.to zi)
                    have HSh := Lib.hid (show Wd.unpack (z.take zi) ((j : Nat) : Int) = ([], 2) by rw [hzi]; exact HShort.out (by omega))
                    have Kt := Lib.hid ((HU.out w13 A7 c7 (z.take zi) (j : Int) zi Zt.out (by rw [List.length_take, Hzlen.out]; omega) (by rw [List.length_take, Hzlen.out]; omega)).mono fun e w' h => unpR_err HSh.out h)
                    clear hzi Zt HSh
                    go_wp2_with fail
                    refine Kt.out.mono ?_
                    rintro e w20 ⟨A20, c20, rfl, y20, b20⟩
                    have k1 := conv_b (cap := c8) ((Y13.out.below b20).sl)
                    have k2 := conv_b (cap := c') ((X13.out.below b20).sl)
                    rw [Hxl.out] at k1 k2
                    have HBe := Lib.hid (HB13.out.trans (b20.mono HB13.out.size))
                    generalize bstr xs = st at *
                    clear y20 b20 Kt
                    go_wp2_with fail
                    go_ret
                    exact ⟨rfl, HBe.out⟩
end Go.Proofs.Ytpaefpjggglmaaa
