/- TreeCuts. -/
import Derived.Test.YtlcchefiicalpaaTlg
import Derived.Test.YtlcchefiicalpaaTmu
import Derived.Test.YtlcchefiicalpaaTcf
import Derived.Test.YtlcchefiicalpaaTrs
namespace Go.Proofs.Ytlcchefiicalpaa
open Go.RowKit
/-- A row that is new since W stays readable whatever becomes of the store. -/
theorem fast_slc {X : Nat → Prop} {W w : World} {D : Option Addr} {d n : Nat} {xs : List Value} (h : SlC w w.heap.size D d n xs) (hf : ∀ a, D = some a → W.heap.size ≤ a.block) (hX : ∀ b, X b → b < W.heap.size) : Fast X w fun u => SlC u u.heap.size D d n xs := fun u k => by
  refine ⟨h.le, h.nil, ?_⟩
  rcases h.sl with h0 | ⟨b, o, e, hb, hc⟩
  · exact .inl h0
  · refine .inr ⟨b, o, e, Nat.lt_of_lt_of_le hb k.size, fun i hi => ?_⟩
    rw [← hc i hi]
    exact cell_heap (k.block b hb fun hx => by have := hX b hx; have := hf _ e; simp only at this; omega)
theorem SlC.chg {w s : World} {rb : Nat} {D : Option Addr} {d n : Nat} {xs : List Value} (h : SlC w w.heap.size D d n xs) (hc : Chg (fun b => b = rb) w s) (hr : ∀ a, D = some a → a.block ≠ rb) : SlC s s.heap.size D d n xs := by
  refine ⟨h.le, h.nil, ?_⟩
  rcases h.sl with h0 | ⟨b, o, e, hb, hcc⟩
  · exact .inl h0
  · refine .inr ⟨b, o, e, Nat.lt_of_lt_of_le hb hc.size, fun i hi => ?_⟩
    rw [← hcc i hi]
    exact cell_heap (hc.block b hb (hr _ e))
def ldRt : Op := Op.load 66 (.tmp 7)
theorem slc_far {w w' : World} {X X' : Nat → Prop} {D : Option Addr} {d n : Nat} {xs : List Value} (h : SlC w w.heap.size D d n xs) (hX : ∀ a, D = some a → ¬ X a.block) (t : Stp w X w' X') : xs = [] ∨ ∀ a, D = some a → ¬ X' a.block := by
  rcases h.sl with h0 | ⟨b, o, e, hb, -⟩
  · exact .inl h0
  · refine .inr fun a ha => ?_
    have hx := hX _ e
    rw [e] at ha
    injection ha with ha
    subst ha
    exact t.far hb hx
theorem fast_slc2 {X : Nat → Prop} {w : World} {D : Option Addr} {d n : Nat} {xs : List Value} (h : SlC w w.heap.size D d n xs) (hX : xs = [] ∨ ∀ a, D = some a → ¬ X a.block) : Fast X w fun u => SlC u u.heap.size D d n xs := fun u k => by
  refine ⟨h.le, h.nil, ?_⟩
  rcases h.sl with h0 | ⟨b, o, e, hb, hc⟩
  · exact .inl h0
  · rcases hX with h0 | hX
    · exact .inl h0
    · refine .inr ⟨b, o, e, Nat.lt_of_lt_of_le hb k.size, fun i hi => ?_⟩
      rw [← hc i hi]
      exact cell_heap (k.block b hb (hX _ e))
theorem lw_chg {B p rb : Nat} {w0 w s : World} {X : Nat → Prop} {st : Tr.MSt} {K K' : World → Prop} (h : LW B w0 p w X st K) (hc : Chg (fun b => b = rb) w s) (hX : ¬ X rb) (hB : B ≤ rb) (hK : Fast X s K') : LW B w0 p s X st K' :=
  ⟨h.rep.keep hc fun b hx hg => hX (hg ▸ hx), ⟨hc.os.trans h.bel.os, hc.tape.trans h.bel.tape, hc.output.trans h.bel.output, Nat.le_trans h.bel.size hc.size, fun b hb => (hc.block b (Nat.lt_of_lt_of_le hb h.sz) (fun e => by have e : b = rb := e; omega)).trans (h.bel.block b hb)⟩, h.ge, Nat.le_trans h.sz hc.size, hK⟩
theorem Tr.cuts_twice (m : List Tr.E) (ks : List Int) : Tr.cuts (Tr.cuts m ks) ks = Tr.cuts m ks := by
  unfold Tr.cuts
  rw [List.filter_filter]
  congr 1
  funext e
  simp
def ldB : Op := Op.load 66 (.tmp 13)
def ldM : Op := Op.load 69 (.tmp 100)
theorem Tr.puts_back {M : List Tr.E} (h : Tr.Asc M) (ks : List Int) : Tr.puts (Tr.cuts M ks) M = M := by
  refine Tr.asc_ext (Tr.puts_asc (Tr.cuts_asc h ks) M) h fun k => ?_
  rw [Tr.puts_get (Tr.cuts_asc h ks)]
  rcases hf : M.reverse.find? (fun e => e.k == k) with _ | e
  · have hn : ∀ x ∈ M, x.k ≠ k := fun x hx hk => by
      have := List.find?_eq_none.1 hf x (List.mem_reverse.2 hx)
      simp [hk] at this
    rw [hf]
    show Tr.get (Tr.cuts M ks) k = Tr.get M k
    rw [Tr.get_none hn, Tr.get_none (m := Tr.cuts M ks) fun x hx => hn x (List.mem_filter.1 hx).1]
  · have h1 := List.mem_reverse.1 (List.mem_of_find?_eq_some hf)
    have h2 : e.k = k := by have := List.find?_some hf; simpa using this
    rw [hf]
    show some e = Tr.get M k
    rw [← h2]
    exact (Tr.get_some h h1 rfl).symm
theorem lw_box {B p bx : Nat} {w0 W w s : World} {X X' : Nat → Prop} {st st' : Tr.MSt} {K : World → Prop} {t : TypeId} {C : Array Value} (h : LW B w0 p W X st K) (hr : MRep p w X' st') (k : Stp W X w X') (hbx : W.heap.size ≤ bx) (hc : Chg (fun b => b = bx) w s) (hb : Blk s bx t C) (hX' : ¬ X' bx) : LW B w0 p s X' st' fun u => K u ∧ Blk u bx t C := by
  have h1 := h.stp hr k
  have h2 : Fast (fun b => X' b ∨ b = bx) w K := h.kp.new k fun b hb => by have hb : b = bx := hb; omega
  exact lw_chg h1 hc hX' (Nat.le_trans h.sz hbx) (Fast.and_ (fun u ku => h2 u ((hc.mono fun _ e => .inr e).then_ (ku.mono fun _ hx => .inl hx))) (Fast.blk hb hX'))
theorem rok_mor {st st' : Tr.MSt} {n : Nat} {k : Nd.T3} {h : Int} {m : List Tr.E} (hr : Tr.RootOk st.L k h m) (hm : Tr.Mor st st' n) : Tr.RootOk st'.L k h m := by
  obtain ⟨l, h1, -⟩ := hm.L
  rw [h1]
  exact hr.app l
set_option maxRecDepth 8000 in
set_option maxHeartbeats 16000000 in
theorem tcuts_any {A Ak : Option Addr} {c ck : Nat} {l : List Tr.E} {ks : List Int} (w : World) (hl : SlC w w.heap.size A c l.length (evs l)) (hk : SlC w w.heap.size Ak ck ks.length (ivs ks)) : Calls Try.prog 14 #[.slice A l.length c, .slice Ak ks.length ck] w fun e w' => e = .returned (.bool true) ∧ Below w.heap.size w w' := by
  have HAw := Lib.hid (tawake_any w)
  have HL := Lib.hid (fun (u : World) (hu : Below w.heap.size w u) => (hl.below hu).more hu.size)
  have HK := Lib.hid (fun (u : World) (hu : Below w.heap.size w u) => (hk.below hu).more hu.size)
  obtain ⟨B, hB⟩ : ∃ B, w.heap.size = B := ⟨_, rfl⟩
  obtain ⟨q, hq⟩ : ∃ q, l.length = q := ⟨_, rfl⟩
  obtain ⟨r, hr⟩ : ∃ q, ks.length = q := ⟨_, rfl⟩
  rw [hB, hq, hr]
  rw [hr] at HK
  have Hq := Lib.hid hq
  have Hr := Lib.hid hr
  clear hl hk hq hr
  have q0 : (0 : Int) ≤ (q : Int) := by omega
  have r0 : (0 : Int) ≤ (r : Int) := by omega
  go_enter Try.func14, Try.ntmps14
  go_upto_region 3 with (go_at_call 30; (with_reducible refine HAw.out.mono ?_); rintro e wa ⟨rfl, ba⟩; (have BA := Lib.hid ba); clear ba)
  have Bad := Lib.hid (show Below B w wa by rw [← hB]; exact BA.out)
  by_cases h60 : 60 < q
  · have z1 : decide ((60 : Int) < (q : Int)) = true := by rw [decide_eq_true_eq]; omega
    have z1' : decide (60 < q) = true := decide_eq_true h60
    go_wp2_with fail
    go_ret
    exact ⟨rfl, Bad.out⟩
  have z1 : decide ((60 : Int) < (q : Int)) = false := by rw [decide_eq_false_iff_not]; omega
  have z1' : decide (60 < q) = false := decide_eq_false h60
  by_cases h40 : 40 < r
  · have z2 : decide ((40 : Int) < (r : Int)) = true := by rw [decide_eq_true_eq]; omega
    have z2' : decide (40 < r) = true := decide_eq_true h40
    go_wp2_with fail
    go_ret
    exact ⟨rfl, Bad.out⟩
  have z2 : decide ((40 : Int) < (r : Int)) = false := by rw [decide_eq_false_iff_not]; omega
  have z2' : decide (40 < r) = false := decide_eq_false h40
  go_wp2_with fail
  clear z1 z1' z2 z2'
  have r40 : (r : Int) ≤ 40 := by omega
  go_loopw [5] (fun v5 wx => ∃ i : Nat, v5 = .int .i64 (i : Int) ∧ i ≤ r ∧ (∀ j, j < i → 0 ≤ Nd.at_ ks j ∧ Nd.at_ ks j < 512) ∧ wx = wa) (fun v5 _ => r - (intOf v5).toNat)
  case atStart => exact ⟨0, rfl, Nat.zero_le _, fun j hj => absurd hj (Nat.not_lt_zero j), rfl⟩
  case round =>
    obtain ⟨i, rfl, hi, hks, rfl⟩ := hrel
    have Hks := Lib.hid hks
    clear hks
    by_cases hir : i < r
    · have z0 : decide ((i : Int) < (r : Int)) = true := by rw [decide_eq_true_eq]; omega
      have z0' : decide (i < r) = true := decide_eq_true hir
      have hii : (0 : Int) ≤ (i : Int) ∧ (i : Int) < (r : Int) := by omega
      obtain ⟨g, o, rfl, -, c0⟩ := (HK.out _ BA.out).int (i := i) (by rw [Hr.out]; exact hir)
      obtain ⟨x, hx⟩ : ∃ x, Nd.at_ ks i = x := ⟨_, rfl⟩
      rw [hx] at c0
      by_cases hx0 : x < 0
      · have z3 : decide (x < 0) = true := decide_eq_true hx0
        go_wp2_with fail
        go_ret
        exact ⟨rfl, Bad.out⟩
      · have z3 : decide (x < 0) = false := decide_eq_false hx0
        by_cases hx5 : 512 ≤ x
        · have z4 : decide (512 ≤ x) = true := decide_eq_true hx5
          go_wp2_with fail
          go_ret
          exact ⟨rfl, Bad.out⟩
        · have z4 : decide (512 ≤ x) = false := decide_eq_false hx5
          have Hn := Lib.hid (show ∀ j, j < i + 1 → 0 ≤ Nd.at_ ks j ∧ Nd.at_ ks j < 512 from fun j hj => by
            rcases Nat.lt_or_ge j i with h | h
            · exact Hks.out j h
            · rw [show j = i by omega, hx]; omega)
          clear hx
          go_wp2_with fail
          go_roundw
          case rel => exact ⟨i + 1, by go_num, by omega, Hn.out, trivial⟩
          case measure => simp [intOf]; omega
    · have z0 : decide ((i : Int) < (r : Int)) = false := by rw [decide_eq_false_iff_not]; omega
      have z0' : decide (i < r) = false := decide_eq_false hir
      have Hko := Lib.hid (show Tr.KeysOk ks from fun j hj => Hks.out j (by rw [Hr.out] at hj; omega))
      clear hi hir Hks
      go_upto_region 11 with fail
      obtain ⟨p, hp⟩ : ∃ p, wr.heap.size = p := ⟨_, rfl⟩
      obtain ⟨W1, hW1⟩ : ∃ W, wr.alloc (.cells #[.slice none 0 0, .int .i64 0, .int .i64 0, .int .i64 0, .int .i64 0] 64) = W := ⟨_, rfl⟩
      rw [hW1, hp]
      have N1 := Lib.hid (show LW B w p W1 (fun b => b = p) ⟨[], 0, 0, 0, 0⟩ (fun _ => True) from by
        have := BA.out.size
        subst hp
        rw [← hW1, ← hB]
        exact ⟨mrep_new wr, BA.out.trans ((below_alloc1 wr _).mono this), fun b hb => by have hb : b = wr.heap.size := hb; omega, by simp; omega, fun _ _ => trivial⟩)
      have H0 := Lib.hid (tempty N1.out.rep Tr.calm0 (by decide))
      unfold memV at H0
      clear hW1 hp z0 z0'
      go_upto_region 12 with (go_at_call 32; (with_reducible refine H0.out.mono ?_); rintro e w2 ⟨X2, s2, k2, h2, rfl, r2, t2, ⟨q2, m2, l2⟩, o2⟩; unfold Tr.rootV; dsimp only; (have N2 := Lib.hid (N1.out.stp r2 t2)); (have O2 := Lib.hid o2); (have C2 := Lib.hid ((Tr.calm0.mor m2).mono (show 0 + q2 ≤ 1 by omega))); clear r2 t2 m2 o2)
      obtain ⟨rb, hrb⟩ : ∃ b, w2.heap.size = b := ⟨_, rfl⟩
      obtain ⟨W2, hW2⟩ : ∃ W, w2.alloc (.cells #[.int .i64 k2.1, .int .i64 k2.2.1, .int .i64 k2.2.2, .int .i64 h2] 66) = W := ⟨_, rfl⟩
      rw [hW2, hrb]
      have N3 := Lib.hid (by have := N2.out.new 66 #[.int .i64 k2.1, .int .i64 k2.2.1, .int .i64 k2.2.2, .int .i64 h2]; rw [hW2, hrb] at this; exact this)
      have Hrb := Lib.hid (show ¬ X2 rb ∧ B ≤ rb from ⟨by rw [← hrb]; exact N2.out.fresh, by rw [← hrb]; exact N2.out.sz⟩)
      have HM := Lib.hid (mput_any (w := W2) (SlC.none_ W2 W2.heap.size) (show SlC W2 W2.heap.size A c l.length (evs l) from HL.out _ (by rw [hB]; exact N3.out.bel)) (m := []) (Nat.zero_le _) (by rw [Hq.out]; omega))
      rw [Hq.out] at HM
      clear hrb hW2 N2 N1 H0
      by_cases hok : Tr.OkL l
      · obtain ⟨M, hM⟩ : ∃ M, Tr.puts [] l = M := ⟨_, rfl⟩
        obtain ⟨nM, hnM⟩ : ∃ n, M.length = n := ⟨_, rfl⟩
        have HM2 := Lib.hid (show Calls Try.prog 44 #[.agg #[.slice none 0 0], .slice A q c] W2 (fun e w' => ∃ D d, e = .returned (.tuple #[.agg #[.slice D nM d], .bool true]) ∧ SlC w' w'.heap.size D d nM (evs M) ∧ (∀ a, D = some a → W2.heap.size ≤ a.block) ∧ Below W2.heap.size W2 w') from HM.out.mono fun e w' he => by
          obtain ⟨(⟨hn, -⟩ | ⟨-, D, d, e1, e2, e3⟩), hb⟩ := he
          · exact (hn hok).elim
          · rw [hM, hnM] at e1
            rw [hM, hnM] at e2
            exact ⟨D, d, e1, e2, e3, hb⟩)
        have HnM := Lib.hid hnM
        have HeM := Lib.hid hM
        have Hok := Lib.hid hok
        have hnb : nM ≤ 60 := by have := Tr.puts_len [] l; rw [hM, hnM, Hq.out] at this; simp at this; omega
        clear hM hnM HM hok
        go_upto_region 13 with (go_at_call 44; (with_reducible refine HM2.out.mono ?_); rintro e w4 ⟨D, d, rfl, e2, e3, b4⟩; dsimp only; (have N4 := Lib.hid (N3.out.below b4)); (have F4 := Lib.hid (fast_slc e2 e3 fun b hb => N3.out.rep.lt hb)); (have FDn := Lib.hid e3); clear e2 e3 b4)
        obtain ⟨mb, hmb⟩ : ∃ b, w4.heap.size = b := ⟨_, rfl⟩
        obtain ⟨W4, hW4⟩ : ∃ W, w4.alloc (.cells #[.slice D nM d] 71) = W := ⟨_, rfl⟩
        rw [hW4, hmb]
        have HMo := Lib.hid (show ∀ e ∈ M, Tr.EOk e from fun e he => by rw [← HeM.out] at he; exact (Tr.puts_mem he).elim (fun h => by cases h) (Tr.okL_iff.1 Hok.out e))
        have HMa := Lib.hid (show Tr.Asc M from by rw [← HeM.out]; exact Tr.puts_asc List.Pairwise.nil l)
        have HMM := Lib.hid (show Tr.puts (Tr.cuts M ks) M = M from Tr.puts_back HMa.out ks)
        have N5 := Lib.hid (by have := N4.out.new 71 #[.slice D nM d]; rw [hW4, hmb] at this; exact this)
        have B45 := Lib.hid (show Below w4.heap.size w4 W4 from hW4 ▸ below_alloc1 w4 _)
        have F5 := Lib.hid (F4.out.below B45.out)
        have Hmb := Lib.hid (show rb < mb from by rw [← hmb]; exact N4.out.now.2.lt)
        have FrD := Lib.hid (show ∀ a, D = some a → a.block ≠ rb from fun a ha he => by
          have h1 := N3.out.now.2.lt
          have h2 := FDn.out a ha
          omega)
        have XD2 := Lib.hid (show ∀ a, D = some a → ¬ X2 a.block from fun a ha hx => by have h1 := N3.out.rep.lt hx; have h2 := FDn.out a ha; omega)
        have Xmb := Lib.hid (show ¬ X2 mb from by rw [← hmb]; exact N4.out.fresh)
        have Bp := Lib.hid (show Below B w W4 from N5.out.bel)
        have HEn := Lib.hid (fun (V : World) (h : Below W4.heap.size W4 V) => entries_any (HL.out V (by rw [hB]; exact Bp.out.trans (h.mono N5.out.sz))) (by rw [Hq.out]; omega))
        have HPt := Lib.hid (fun (V : World) (D' : Option Addr) (d' : Nat) (h : Below W4.heap.size W4 V) (hs : SlC V V.heap.size D' d' q (evs l)) => show Calls Try.prog 39 #[memV p, Tr.rootV k2 h2, .slice D' q d'] V (RtO p V X2 s2 (15 * q + 6) M) from by
          have := tput (N5.out.below h).rep C2.out O2.out (L := l) (n := q) hs Hq.out (by omega) (Tr.okL_iff.1 Hok.out)
          rw [HeM.out] at this
          exact this)
        rw [Hq.out] at HEn
        unfold memV Tr.rootV at HPt
        have R5 := N5.out.now.1.2
        have x0 := R5.cell 0
        have x1 := R5.cell 1
        have x2 := R5.cell 2
        have x3 := R5.cell 3
        have KR5 := Lib.hid (fun (V : World) (h : Below W4.heap.size W4 V) => (N5.out.below h).now.1.2)
        clear hmb hW4 R5
        go_upto_region 17 with fail
        go_cut [8] from 71 to 79 (fun v8 wx => v8 = .int .i64 0 ∧ ∃ (X : Nat → Prop) (s : Tr.MSt) (k : Nd.T3) (h : Int), LW B w p wx X s (fun u => Blk u rb 66 #[.int .i64 k.1, .int .i64 k.2.1, .int .i64 k.2.2, .int .i64 h] ∧ Blk u mb 71 #[.slice D nM d] ∧ SlC u u.heap.size D d nM (evs M)) ∧ Tr.RootOk s.L k h M ∧ Tr.Calm s 1000)
        case first =>
          have hbc : Below W4.heap.size W4 W4.drew := (Below.refl _ _).drew
          have hl1 : ldRt = Op.load 66 (.tmp 7) := rfl
          rw [← hl1]
          go_region_held3 (fun _ => True) (trivial) (first
            | (go_at_call 45; ((with_reducible refine (HEn.out _ hbc).mono ?_); rintro e w6 ⟨⟨D6, d6, rfl, e6⟩, b6⟩; have hbc := hbc.trans (b6.mono hbc.size); have E6 := Lib.hid e6; have R6 := KR5.out _ hbc; have x0 := R6.cell 0; have x1 := R6.cell 1; have x2 := R6.cell 2; have x3 := R6.cell 3; clear e6 b6 R6))
            | (go_at_call 39; ((with_reducible refine (HPt.out _ _ _ hbc E6.out).mono ?_); rintro e w7 ⟨X7, s7, k7, h7, rfl, r7, t7, ⟨j7, m7, l7⟩, o7⟩; unfold Tr.rootV; dsimp only; have N7 := Lib.hid ((N5.out.below hbc).stp r7 t7); have F7 := Lib.hid ((F5.out.below hbc).step t7); have O7 := Lib.hid o7; have C7 := Lib.hid ((C2.out.mor m7).mono (show 1 + j7 ≤ 1000 by omega)); have T7 := Lib.hid (t7.far (N5.out.below hbc).now.1.2.lt Hrb.out.1); have T7m := Lib.hid (t7.far (N5.out.below hbc).now.2.lt Xmb.out); have FX := Lib.hid (slc_far (F5.out.below hbc).now XD2.out t7); clear r7 t7 m7 o7; (obtain ⟨v1, v2, v3, v4, p1, p2, p3, p4, ⟨f1, f2, f3, f4⟩, ⟨g1, g2, g3, g4⟩, Bk, Ck⟩ := blk_st4 N7.out.now.1.2 (.int .i64 k7.1) (.int .i64 k7.2.1) (.int .i64 k7.2.2) (.int .i64 h7)); have BK := Lib.hid Bk; have CK := Lib.hid Ck; clear Bk Ck)))
          all_goals go_wp2_with fail
          all_goals go_meet
          all_goals
            have N8 := Lib.hid (lw_chg N7.out CK.out T7.out Hrb.out.2 ((Fast.blk BK.out T7.out).and_ ((Fast.blk (N7.out.now.2.keep (CK.out.block mb N7.out.now.2.lt (Nat.ne_of_gt Hmb.out))) T7m.out).and_ (fast_slc2 (SlC.chg F7.out.now CK.out FrD.out) FX.out))))
            exact ⟨rfl, X7, s7, k7, h7, N8.out, O7.out, C7.out⟩
        case rest =>
          obtain ⟨rfl, X7, s7, k7, h7, hn, ho, hc⟩ := hcut
          have N8 := Lib.hid hn
          have O7 := Lib.hid ho
          have C7 := Lib.hid hc
          clear hn ho hc x0 x1 x2 x3
          have c0 := N8.out.now.1.cell 0
          have c1 := N8.out.now.1.cell 1
          have c2 := N8.out.now.1.cell 2
          have c3 := N8.out.now.1.cell 3
          have Hkk := Lib.hid (show ∀ x ∈ ks, 0 ≤ x ∧ x < 512 from fun x hx => by obtain ⟨j, hj, rfl⟩ := List.mem_iff_getElem.1 hx; have := Hko.out j hj; unfold Nd.at_ at this; rw [List.getD_eq_getElem?_getD, List.getElem?_eq_getElem hj] at this; exact this)
          have H18 := Lib.hid (tcut N8.out.rep C7.out O7.out (HK.out _ (by rw [hB]; exact N8.out.bel)) Hr.out (by omega) Hkk.out)
          unfold memV Tr.rootV at H18
          go_upto_region 19 with (go_at_call 40; (with_reducible refine H18.out.mono ?_); rintro e w9 ⟨X9, s9, k9, h9, rfl, r9, t9, ⟨j9, m9, l9⟩, o9⟩; unfold Tr.rootV; dsimp only; (have N9 := Lib.hid (N8.out.stp r9 t9)); (have O9 := Lib.hid o9); (have C9 := Lib.hid ((C7.out.mor m9).mono (show 1000 + j9 ≤ 2000 by omega))); clear r9 t9 m9 o9)
          obtain ⟨ab, hab⟩ : ∃ b, w9.heap.size = b := ⟨_, rfl⟩
          obtain ⟨W9, hW9⟩ : ∃ W, w9.alloc (.cells #[.int .i64 k9.1, .int .i64 k9.2.1, .int .i64 k9.2.2, .int .i64 h9] 66) = W := ⟨_, rfl⟩
          rw [hW9, hab]
          have N10 := Lib.hid (by have := N9.out.new 66 #[.int .i64 k9.1, .int .i64 k9.2.1, .int .i64 k9.2.2, .int .i64 h9]; rw [hW9, hab] at this; exact this)
          clear hab hW9 c0 c1 c2 c3
          have c0 := N10.out.now.2.cell 0
          have c1 := N10.out.now.2.cell 1
          have c2 := N10.out.now.2.cell 2
          have c3 := N10.out.now.2.cell 3
          have H19 := Lib.hid (tcut N10.out.rep C9.out O9.out (HK.out _ (by rw [hB]; exact N10.out.bel)) Hr.out (by omega) Hkk.out)
          rw [Tr.cuts_twice] at H19
          unfold memV Tr.rootV at H19
          go_upto_region 20 with (go_at_call 40; (with_reducible refine H19.out.mono ?_); rintro e w11 ⟨X11, s11, k11, h11, rfl, r11, t11, ⟨j11, m11, l11⟩, o11⟩; unfold Tr.rootV; dsimp only; (have N11 := Lib.hid (N10.out.stp r11 t11)); (have O11 := Lib.hid o11); (have OA := Lib.hid (rok_mor O9.out m11)); (have C11 := Lib.hid ((C9.out.mor m11).mono (show 2000 + j11 ≤ 3000 by omega))); clear r11 t11 m11 o11)
          obtain ⟨bb, hbb⟩ : ∃ b, w11.heap.size = b := ⟨_, rfl⟩
          obtain ⟨W11, hW11⟩ : ∃ W, w11.alloc (.cells #[.int .i64 k11.1, .int .i64 k11.2.1, .int .i64 k11.2.2, .int .i64 h11] 66) = W := ⟨_, rfl⟩
          rw [hW11, hbb]
          have N12 := Lib.hid (by have := N11.out.new 66 #[.int .i64 k11.1, .int .i64 k11.2.1, .int .i64 k11.2.2, .int .i64 h11]; rw [hW11, hbb] at this; exact this)
          clear hbb hW11 c0 c1 c2 c3
          have Bq := Lib.hid (show Below B w W11 from N12.out.bel)
          have KK := Lib.hid (fun (V : World) (h : Below W11.heap.size W11 V) => (N12.out.below h).now)
          have HEn2 := Lib.hid (fun (V : World) (h : Below W11.heap.size W11 V) => entries_any (w := V) (l := M) (by rw [HnM.out]; exact (KK.out V h).1.1.2.2) (by rw [HnM.out]; omega))
          have HPt2 := Lib.hid (fun (V : World) (D' : Option Addr) (d' : Nat) (h : Below W11.heap.size W11 V) (hs : SlC V V.heap.size D' d' nM (evs M)) => show Calls Try.prog 39 #[memV p, Tr.rootV k11 h11, .slice D' nM d'] V (RtO p V X11 s11 (15 * nM + 6) M) from by
            have := tput (N12.out.below h).rep C11.out O11.out (L := M) (n := nM) hs HnM.out (by omega) HMo.out
            rw [HMM.out] at this
            exact this)
          rw [HnM.out] at HEn2
          unfold memV Tr.rootV at HPt2
          obtain ⟨K, hK, hKK⟩ : ∃ K : World → Prop, LW B w p W11 X11 s11 K ∧ ∀ u, K u → Blk u mb 71 #[.slice D nM d] ∧ SlC u u.heap.size D d nM (evs M) ∧ Blk u ab 66 #[.int .i64 k9.1, .int .i64 k9.2.1, .int .i64 k9.2.2, .int .i64 h9] ∧ Blk u bb 66 #[.int .i64 k11.1, .int .i64 k11.2.1, .int .i64 k11.2.2, .int .i64 h11] := ⟨_, N12.out, fun _ h => ⟨h.1.1.2.1, h.1.1.2.2, h.1.2, h.2⟩⟩
          have NK := Lib.hid hK
          have HKK := Lib.hid hKK
          have XLT := Lib.hid (show ∀ b, X11 b → b < W11.heap.size from fun b hb => N12.out.rep.lt hb)
          have SV : ∀ u, (Blk u mb 71 #[.slice D nM d] ∧ SlC u u.heap.size D d nM (evs M) ∧ Blk u ab 66 #[.int .i64 k9.1, .int .i64 k9.2.1, .int .i64 k9.2.2, .int .i64 h9] ∧ Blk u bb 66 #[.int .i64 k11.1, .int .i64 k11.2.1, .int .i64 k11.2.2, .int .i64 h11]) → u.cell? ⟨bb, 0, none⟩ = some (.int .i64 k11.1) ∧ u.cell? ⟨bb, 1, none⟩ = some (.int .i64 k11.2.1) ∧ u.cell? ⟨bb, 2, none⟩ = some (.int .i64 k11.2.2) ∧ u.cell? ⟨bb, 3, none⟩ = some (.int .i64 h11) ∧ u.cell? ⟨mb, 0, none⟩ = some (.slice D nM d) := fun u h => ⟨h.2.2.2.cell 0, h.2.2.2.cell 1, h.2.2.2.cell 2, h.2.2.2.cell 3, h.1.cell 0⟩
          have KS := Lib.hid (fun (V : World) (hV : Below W11.heap.size W11 V) => SV V (HKK.out V (NK.out.below hV).now))
          clear hK hKK
          go_upto_region 20 with fail
          go_cut [15, 16] from 96 to 105 (fun v15 v16 wx => ∃ (cb : Nat) (X : Nat → Prop) (s : Tr.MSt) (k : Nd.T3) (h : Int), v15 = .pointer (some ⟨cb, 0, none⟩) ∧ v16 = .int .i64 0 ∧ LW B w p wx X s (fun u => K u ∧ Blk u cb 66 #[.int .i64 k.1, .int .i64 k.2.1, .int .i64 k.2.2, .int .i64 h]) ∧ Tr.RootOk s.L k h M ∧ Tr.Calm s 4000 ∧ Tr.RootOk s.L k9 h9 (Tr.cuts M ks) ∧ Tr.RootOk s.L k11 h11 (Tr.cuts M ks))
          case first =>
            have hbc : Below W11.heap.size W11 W11.drew := (Below.refl _ _).drew
            go_region_held3 (fun u => u.cell? ⟨bb, 0, none⟩ = some (.int .i64 k11.1) ∧ u.cell? ⟨bb, 1, none⟩ = some (.int .i64 k11.2.1) ∧ u.cell? ⟨bb, 2, none⟩ = some (.int .i64 k11.2.2) ∧ u.cell? ⟨bb, 3, none⟩ = some (.int .i64 h11) ∧ u.cell? ⟨mb, 0, none⟩ = some (.slice D nM d)) (first | exact KS.out _ hbc | exact KS.out _ (below_alloc1 W11 (Obj.cells #[.int .i64 0, .int .i64 0, .int .i64 0, .int .i64 0] 66)).drew | exact KS.out _ (hbc.trans ((below_alloc1 w13 (Obj.cells #[.int .i64 0, .int .i64 0, .int .i64 0, .int .i64 0] 66)).mono hbc.size)) | exact KV.out _ (Below.refl _ _) | exact KV.out _ (below_alloc1 w15 _) | exact K4.out) (first
              | (go_at_call 39; (have gb := GB.out); ((with_reducible refine (HPt2.out _ _ _ hbc E13.out).mono ?_); rintro e w15 ⟨X15, s15, k15, h15, rfl, r15, t15, ⟨j15, m15, l15⟩, o15⟩; unfold Tr.rootV; dsimp only; have R15 := Lib.hid r15; have T15 := Lib.hid ((Stp.of_below X11 hbc).trans t15); have KV := Lib.hid (fun (V : World) (hV : Below w15.heap.size w15 V) => SV V (HKK.out V ((NK.out.stp R15.out T15.out).below hV).now)); have O15 := Lib.hid o15; have OA5 := Lib.hid (rok_mor OA.out m15); have OB5 := Lib.hid (rok_mor O11.out m15); have C15 := Lib.hid ((C11.out.mor m15).mono (show 3000 + j15 ≤ 4000 by omega)); have gb15 := gb.keep (t15.chg.block _ gb.lt fun hx => by have := XLT.out _ hx; have := GB2.out; omega); have G15 := Lib.hid GB2.out; have XF := Lib.hid (t15.far gb.lt fun hx => by have := XLT.out _ hx; have := GB2.out; omega); (obtain ⟨v1, v2, v3, v4, p1, p2, p3, p4, ⟨f1, f2, f3, f4⟩, ⟨g1, g2, g3, g4⟩, Bk, Ck⟩ := blk_st4 gb15 (.int .i64 k15.1) (.int .i64 k15.2.1) (.int .i64 k15.2.2) (.int .i64 h15)); have BK := Lib.hid Bk; have CK := Lib.hid Ck; have K4 := Lib.hid (SV v4 (HKK.out v4 (lw_box NK.out R15.out T15.out G15.out Ck Bk XF.out).now.1)); clear Bk Ck gb15; clear r15 t15 m15 o15))
              | (go_at_call 45; ((with_reducible refine (HEn2.out _ hbc).mono ?_); rintro e w13 ⟨⟨D13, d13, rfl, e13⟩, b13⟩; have hbc := hbc.trans (b13.mono hbc.size); have E13 := Lib.hid e13;  clear e13 b13))
              | (go_at_call 39; ((with_reducible refine (HPt2.out _ _ _ hbc E13.out).mono ?_); rintro e w15 ⟨X15, s15, k15, h15, rfl, r15, t15, ⟨j15, m15, l15⟩, o15⟩; unfold Tr.rootV; dsimp only; have R15 := Lib.hid r15; have T15 := Lib.hid ((Stp.of_below X11 hbc).trans t15); have KV := Lib.hid (fun (V : World) (hV : Below w15.heap.size w15 V) => SV V (HKK.out V ((NK.out.stp R15.out T15.out).below hV).now)); have O15 := Lib.hid o15; have OA5 := Lib.hid (rok_mor OA.out m15); have OB5 := Lib.hid (rok_mor O11.out m15); have C15 := Lib.hid ((C11.out.mor m15).mono (show 3000 + j15 ≤ 4000 by omega));  clear r15 t15 m15 o15))
              | (go_at_call 45; (have GBz := (Blk.new W11 66 #[.int .i64 0, .int .i64 0, .int .i64 0, .int .i64 0]).keep (w' := (W11.alloc (Obj.cells #[.int .i64 0, .int .i64 0, .int .i64 0, .int .i64 0] 66)).drew) rfl); (have hbc := (below_alloc1 W11 (Obj.cells #[.int .i64 0, .int .i64 0, .int .i64 0, .int .i64 0] 66)).drew); ((with_reducible refine (HEn2.out _ hbc).mono ?_); rintro e w13 ⟨⟨D13, d13, rfl, e13⟩, b13⟩; have hbc := hbc.trans (b13.mono hbc.size); have E13 := Lib.hid e13; have GB := Lib.hid (GBz.keep (b13.block _ GBz.lt)); have GB2 := Lib.hid (Nat.le_refl W11.heap.size); clear GBz; clear e13 b13))
              | (go_at_call 39; (have GBz := Blk.new w13 66 #[.int .i64 0, .int .i64 0, .int .i64 0, .int .i64 0]); (have G15 := Lib.hid hbc.size); (have E13 := Lib.hid ((E13.out.below (below_alloc1 _ (Obj.cells #[.int .i64 0, .int .i64 0, .int .i64 0, .int .i64 0] 66))).more (below_alloc1 _ (Obj.cells #[.int .i64 0, .int .i64 0, .int .i64 0, .int .i64 0] 66)).size)); (have hbc := hbc.trans ((below_alloc1 _ (Obj.cells #[.int .i64 0, .int .i64 0, .int .i64 0, .int .i64 0] 66)).mono hbc.size)); ((with_reducible refine (HPt2.out _ _ _ hbc E13.out).mono ?_); rintro e w15 ⟨X15, s15, k15, h15, rfl, r15, t15, ⟨j15, m15, l15⟩, o15⟩; unfold Tr.rootV; dsimp only; have R15 := Lib.hid r15; have T15 := Lib.hid ((Stp.of_below X11 hbc).trans t15); have KV := Lib.hid (fun (V : World) (hV : Below w15.heap.size w15 V) => SV V (HKK.out V ((NK.out.stp R15.out T15.out).below hV).now)); have O15 := Lib.hid o15; have OA5 := Lib.hid (rok_mor OA.out m15); have OB5 := Lib.hid (rok_mor O11.out m15); have C15 := Lib.hid ((C11.out.mor m15).mono (show 3000 + j15 ≤ 4000 by omega)); have gb15 := GBz.keep (t15.chg.block _ GBz.lt fun hx => by have := XLT.out _ hx; have := G15.out; omega); have XF := Lib.hid (t15.far GBz.lt fun hx => by have := XLT.out _ hx; have := G15.out; omega); (obtain ⟨v1, v2, v3, v4, p1, p2, p3, p4, ⟨f1, f2, f3, f4⟩, ⟨g1, g2, g3, g4⟩, Bk, Ck⟩ := blk_st4 gb15 (.int .i64 k15.1) (.int .i64 k15.2.1) (.int .i64 k15.2.2) (.int .i64 h15)); have BK := Lib.hid Bk; have CK := Lib.hid Ck; have K4 := Lib.hid (SV v4 (HKK.out v4 (lw_box NK.out R15.out T15.out G15.out Ck Bk XF.out).now.1)); clear Bk Ck gb15; clear GBz; clear r15 t15 m15 o15)))
            all_goals go_wp2_with fail
            all_goals go_meet
            all_goals first
              | exact ⟨_, _, _, _, _, rfl, rfl, lw_box NK.out R15.out T15.out G15.out CK.out BK.out XF.out, O15.out, C15.out, OA5.out, OB5.out⟩
              | exact ⟨_, _, _, _, _, rfl, rfl, (NK.out.stp R15.out T15.out).new _ _, O15.out, C15.out, OA5.out, OB5.out⟩
          case rest =>
            obtain ⟨cb, X15, s15, k15, h15, rfl, rfl, hw, o15, c15, oa, ob⟩ := hcut
            have N16 := Lib.hid hw
            have O16 := Lib.hid o15
            have C16 := Lib.hid c15
            have OA := Lib.hid oa
            have OB := Lib.hid ob
            clear hw o15 c15 oa ob
            have V16 := Lib.hid (HKK.out wc N16.out.now.1)
            have c4 := V16.out.1.cell 0
            have H21 := Lib.hid (mcutF_any (w := wc) (m := M) (ks := ks) (by rw [HnM.out]; exact V16.out.2.1) (by rw [Hr.out]; exact HK.out _ (by rw [hB]; exact N16.out.bel)) (by rw [HnM.out]; omega) (by rw [Hr.out]; omega))
            rw [Hr.out, HnM.out] at H21
            obtain ⟨Q, hQ⟩ : ∃ Q, Tr.cuts M ks = Q := ⟨_, rfl⟩
            obtain ⟨nQ, hnQ⟩ : ∃ n, Q.length = n := ⟨_, rfl⟩
            rw [hQ] at H21 OA OB
            rw [hnQ] at H21
            have hQb : nQ ≤ 60 := by have := Tr.cuts_len M ks; rw [hQ, hnQ, HnM.out] at this; omega
            have HnQ := Lib.hid hnQ
            have H21b := Lib.hid (show Calls Try.prog 46 #[.agg #[.slice D nM d], .slice Ak r ck] wc (fun e w' => ∃ D d, e = .returned (.tuple #[.agg #[.slice D nQ d], .bool true]) ∧ SlC w' w'.heap.size D d nQ (evs Q) ∧ (∀ a, D = some a → wc.heap.size ≤ a.block) ∧ Below wc.heap.size wc w') from H21.out.mono fun e w' he => by
              obtain ⟨(⟨hn, -⟩ | ⟨-, D, d, e1, e2, e3⟩), hb⟩ := he
              · exact (hn Hko.out).elim
              · exact ⟨D, d, e1, e2, e3, hb⟩)
            clear H21 hQ hnQ
            go_upto_region 22 with (go_at_call 46; (with_reducible refine H21b.out.mono ?_); rintro e w17 ⟨D17, d17, rfl, e2, e3, b17⟩; dsimp only; (have N17 := Lib.hid (N16.out.below b17)); (have F17 := Lib.hid (fast_slc e2 e3 fun b hb => N16.out.rep.lt hb)); clear e2 e3 b17)
            obtain ⟨nb, hnb⟩ : ∃ b, w17.heap.size = b := ⟨_, rfl⟩
            obtain ⟨W17, hW17⟩ : ∃ W, w17.alloc (.cells #[.slice D17 nQ d17] 71) = W := ⟨_, rfl⟩
            rw [hW17, hnb]
            have N18 := Lib.hid (by have := (N17.out.new 71 #[.slice D17 nQ d17]).and_ (F17.out.below (below_alloc1 w17 _)); rw [hW17, hnb] at this; exact this)
            clear hW17 hnb c4 H21b
            have V18 := Lib.hid (HKK.out _ N18.out.now.1.1.1)
            have c0 := V18.out.2.2.1.cell 0
            have c1 := V18.out.2.2.1.cell 1
            have c2 := V18.out.2.2.1.cell 2
            have c3 := V18.out.2.2.1.cell 3
            have HA19 := Lib.hid (tall N18.out.rep C16.out.bl OA.out)
            unfold AlO at HA19
            rw [HnQ.out] at HA19
            unfold memV Tr.rootV at HA19
            go_upto_region 23 with (go_at_call 35; (with_reducible refine HA19.out.mono ?_); rintro e w19 ⟨X19, s19, A19, c19_, rfl, r19, t19, ks19, f19⟩; (have N19 := Lib.hid ((N18.out.stp r19 t19).and_ f19)); (have C19 := Lib.hid (show s19.bl = 0 from ks19.bl.trans C16.out.bl)); (have L19 := Lib.hid ks19.L); clear r19 t19 ks19 f19)
            have OB19 := Lib.hid (show Tr.RootOk s19.L k11 h11 Q from by rw [L19.out]; exact OB.out)
            have OC19 := Lib.hid (show Tr.RootOk s19.L k15 h15 M from by rw [L19.out]; exact O16.out)
            have V19 := Lib.hid (HKK.out _ N19.out.now.1.1.1.1)
            clear c0 c1 c2 c3
            have c0 := V19.out.2.2.2.cell 0
            have c1 := V19.out.2.2.2.cell 1
            have c2 := V19.out.2.2.2.cell 2
            have c3 := V19.out.2.2.2.cell 3
            have HA20 := Lib.hid (tall N19.out.rep C19.out OB19.out)
            unfold AlO at HA20
            rw [HnQ.out] at HA20
            unfold memV Tr.rootV at HA20
            go_upto_region 24 with (go_at_call 35; (with_reducible refine HA20.out.mono ?_); rintro e w20 ⟨X20, s20, A20, c20_, rfl, r20, t20, ks20, f20⟩; (have N20 := Lib.hid ((N19.out.stp r20 t20).and_ f20)); (have C20 := Lib.hid (show s20.bl = 0 from ks20.bl.trans C19.out)); (have L20 := Lib.hid ks20.L); clear r20 t20 ks20 f20)
            have OC20 := Lib.hid (show Tr.RootOk s20.L k15 h15 M from by rw [L20.out]; exact OC19.out)
            have B20 := Lib.hid N20.out.now.1.1.1.1.2
            clear c0 c1 c2 c3
            have c0 := B20.out.cell 0
            have c1 := B20.out.cell 1
            have c2 := B20.out.cell 2
            have c3 := B20.out.cell 3
            have HA21 := Lib.hid (tall N20.out.rep C20.out OC20.out)
            unfold AlO at HA21
            rw [HnM.out] at HA21
            unfold memV Tr.rootV at HA21
            go_upto_region 25 with (go_at_call 35; (with_reducible refine HA21.out.mono ?_); rintro e w21 ⟨X21, s21, A21, c21_, rfl, r21, t21, ks21, f21⟩; (have N21 := Lib.hid ((N20.out.stp r21 t21).and_ f21)); (have C21 := Lib.hid (show s21.bl = 0 from ks21.bl.trans C20.out)); (have L21 := Lib.hid ks21.L); clear r21 t21 ks21 f21)
            clear c0 c1 c2 c3
            have RD := Lib.hid (fun (V : World) (hV : Below w21.heap.size w21 V) => (N21.out.below hV).now)
            have HS1 := Lib.hid (fun (V : World) (hV : Below w21.heap.size w21 V) => msame_any (w := V) (l := Q) (by rw [HnQ.out]; exact (RD.out V hV).1.1.2) (by rw [HnQ.out]; exact (RD.out V hV).1.1.1.2) (by rw [HnQ.out]; omega))
            have HS2 := Lib.hid (fun (V : World) (hV : Below w21.heap.size w21 V) => msame_any (w := V) (l := Q) (by rw [HnQ.out]; exact (RD.out V hV).1.2) (by rw [HnQ.out]; exact (RD.out V hV).1.1.1.2) (by rw [HnQ.out]; omega))
            have HS3 := Lib.hid (fun (V : World) (hV : Below w21.heap.size w21 V) => msame_any (w := V) (l := M) (by rw [HnM.out]; exact (RD.out V hV).2) (by rw [HnM.out]; exact (HKK.out V (RD.out V hV).1.1.1.1.1.1).2.1) (by rw [HnM.out]; omega))
            rw [HnQ.out] at HS1 HS2
            rw [HnM.out] at HS3
            have hbc : Below w21.heap.size w21 w21 := Below.refl _ _
            have y0 := (RD.out _ hbc).1.1.1.1.2.cell 0
            have y1 := (HKK.out _ (RD.out _ hbc).1.1.1.1.1.1).1.cell 0
            go_wp2_with (go_at_call 36; (first | (with_reducible refine (HS1.out _ hbc).mono ?_) | (with_reducible refine (HS2.out _ hbc).mono ?_) | (with_reducible refine (HS3.out _ hbc).mono ?_)); rintro e w16 ⟨rfl, b16⟩; (have hbc := hbc.trans (b16.mono hbc.size)); (have y0 := (RD.out _ hbc).1.1.1.1.2.cell 0); (have y1 := (HKK.out _ (RD.out _ hbc).1.1.1.1.1.1).1.cell 0); clear b16)
            go_ret
            exact ⟨rfl, (N21.out.below hbc).bel⟩
      · have HM2 := Lib.hid (show Calls Try.prog 44 #[.agg #[.slice none 0 0], .slice A q c] W2 (fun e w' => e = .returned (.tuple #[.agg #[.slice none 0 0], .bool false]) ∧ Below W2.heap.size W2 w') from HM.out.mono fun e w' he => by
          obtain ⟨(⟨-, e1⟩ | ⟨hn, -⟩), hb⟩ := he
          · exact ⟨e1, hb⟩
          · exact (hok hn).elim)
        clear HM
        go_wp2_with (go_at_call 44; (with_reducible refine HM2.out.mono ?_); rintro e w4 ⟨rfl, b4⟩; dsimp only; (have N4 := Lib.hid (N3.out.below b4)); (have N5 := Lib.hid (N4.out.below (below_alloc1 w4 (.cells #[.slice none 0 0] 71)))); clear b4)
        go_ret
        exact ⟨rfl, N5.out.bel⟩
end Go.Proofs.Ytlcchefiicalpaa
