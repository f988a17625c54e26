/- The document's Decode. -/
import Derived.Test.YtdfelkkibolheaaNdv
import Derived.Test.YtdfelkkibolheaaNdu
namespace Go.Proofs.Ytdfelkkibolheaa
open Go.RowKit Vint

abbrev ndZ : Array Value := #[.int .i64 0, .slice none 0 0, .slice none 0 0, .slice none 0 0, .slice none 0 0]
/-- What lies below a node that the document reads: the result's block, the reader. -/
structure DD (w0 w : World) (rb M xb : Nat) (A : Option Addr) (b : List Nat) (c : Nat) (st : Nd.St) : Prop where
  rc : RC w M A b c st
  rbk : Blk w rb 60 ndZ
  bel : Below rb w0 w
  h1 : rb < M
  h2 : M < xb
section
variable {w0 w w' : World} {rb M xb c : Nat} {A : Option Addr} {b : List Nat} {st st' : Nd.St}
theorem DD.below (h : DD w0 w rb M xb A b c st) (hb : Below xb w w') : DD w0 w' rb M xb A b c st :=
  ⟨h.rc.keep fun i hi => hb.block i (Nat.lt_of_le_of_lt hi h.h2), h.rbk.keep (hb.block rb (Nat.lt_trans h.h1 h.h2)), h.bel.trans (hb.mono (Nat.le_of_lt (Nat.lt_trans h.h1 h.h2))), h.h1, h.h2⟩
theorem DD.num (h : DD w0 w rb M xb A b c st) (hr : RC w' M A b c st') (hc : Chg (FM M) w w') : DD w0 w' rb M xb A b c st' :=
  ⟨hr, h.rbk.keep (hc.block rb h.rbk.lt fun e => by have := h.h1; have e' : rb = M := e; omega), h.bel.trans (hc.below (Nat.le_of_lt h.rbk.lt) fun i hi => by have := h.h1; have e' : i = M := hi; omega), h.h1, h.h2⟩
end
theorem sl_one {w : World} {a : Value} {t : TypeId} : Sl (w.alloc (.cells #[a] t)) (w.heap.size + 1) (some ⟨w.heap.size, 0, none⟩) [a] := .inr ⟨w.heap.size, 0, rfl, by omega, fun i hi => by
  have : i = 0 := by have : i < 1 := hi; omega
  subst this
  exact (Blk.new w t _).cell _⟩
theorem sl_three' {w : World} {a b c : Value} {t : TypeId} : Sl (w.alloc (.cells #[a, b, c] t)) (w.heap.size + 1) (some ⟨w.heap.size, 0, none⟩) [a, b, c] := .inr ⟨w.heap.size, 0, rfl, by omega, fun i hi => by
  have : i < 3 := hi
  have : i = 0 ∨ i = 1 ∨ i = 2 := by omega
  rcases this with rfl | rfl | rfl <;> exact (Blk.new w t _).cell _⟩
theorem cnum_is {w : World} {M c : Nat} {A : Option Addr} {b : List Nat} {st : Nd.St} (h : RC w M A b c st) {x : Nat × Nd.St} (hx : x = Nd.nx st) : Calls Try.prog 27 #[.pointer (some ⟨M, 0, none⟩)] w fun e w' => e = .returned (.int .i64 (x.1 : Int)) ∧ RC w' M A b c x.2 ∧ Chg (FM M) w w' := by
  rw [hx]; exact cnum_any h
theorem below_alloc {w : World} {B : Nat} (hB : B ≤ w.heap.size) (o : Obj) : Below B w (w.alloc o) := (Below.refl _ _).alloc hB o
/-- Loads under names: they are not to be taken first. -/
def ldD1 : Op := Op.load 51 (.tmp 41)
def ldD2 : Op := Op.load 57 (.tmp 59)
def ldD3 : Op := Op.load 51 (.tmp 64)
def ldD4 : Op := Op.load 58 (.tmp 80)
set_option maxRecDepth 8000 in
set_option maxHeartbeats 16000000 in
theorem rdec_any {w : World} {A : Option Addr} {c : Nat} {b : List Nat} (hsl : Sl w w.heap.size A (byts b)) (hb : ∀ x ∈ b, x < 256) (hl : b.length ≤ 1000000) : Calls Try.prog 50 #[.slice A b.length c] w fun e w' => ∃ v, e = .returned (.tuple #[v, .int .i64 ((Nd.dec b).2 : Int)]) ∧ NdAt w' w'.heap.size v (Nd.dec b).1 ∧ Below w.heap.size w w' := by
  obtain ⟨rb, hrb⟩ : ∃ g, w.heap.size = g := ⟨_, rfl⟩
  obtain ⟨W1, hW1⟩ : ∃ W, w.alloc (.cells ndZ 60) = W := ⟨_, rfl⟩
  obtain ⟨M, hM⟩ : ∃ g, W1.heap.size = g := ⟨_, rfl⟩
  obtain ⟨kb, hkb⟩ : ∃ k, k = b.length := ⟨_, rfl⟩
  have Hkb := Lib.hid hkb
  obtain ⟨W2, hW2⟩ : ∃ W, W1.alloc (.cells #[.slice A kb c, .int .i64 0, .int .i64 0] 38) = W := ⟨_, rfl⟩
  have hb1 : Below rb w W1 := by rw [← hW1, ← hrb]; exact (Below.refl _ _).alloc (Nat.le_refl _) _
  have hrM : M = rb + 1 := by rw [← hM, ← hW1, ← hrb]; simp
  have hb2 : Below rb w W2 := by rw [← hW2]; exact hb1.alloc (by rw [hM]; omega) _
  have hs2 : W2.heap.size = M + 1 := by rw [← hW2, ← hM]; simp
  have rbk : Blk W2 rb 60 ndZ := by rw [← hW2]; exact Blk.alloc (by rw [← hW1, ← hrb]; exact Blk.new _ _ _) _
  have rc : RC W2 M A b c (.ok b) := ⟨hb, by omega, ((hsl.below (by rw [hrb]; exact hb2)).more (by rw [hrb]; omega)), 0, 0, by rw [← hW2, ← hM, ← hkb]; exact Blk.new _ _ _, rfl, Nat.zero_le _, rfl⟩
  have N1 := Lib.hid (cnum_any rc)
  obtain ⟨h1, hh1⟩ : ∃ x, x = Nd.nx (.ok b) := ⟨_, rfl⟩
  obtain ⟨h2, hh2⟩ : ∃ x, x = Nd.nx h1.2 := ⟨_, rfl⟩
  have HH1 := Lib.hid hh1
  have HH2 := Lib.hid hh2
  rw [← hh1] at N1
  have l1 : h1.1 < 268435456 := by rw [hh1]; exact Nd.nx_lt _
  have l2 : h2.1 < 268435456 := by rw [hh2]; exact Nd.nx_lt _
  have RBK := Lib.hid rbk
  have HB2 := Lib.hid hb2
  clear hb1 hb2 rc rbk hb hl hsl hh1 hh2
  rw [← hkb, hrb]
  clear hkb
  subst hrM
  obtain ⟨R, hR⟩ : ∃ R, R = Nd.dec b := ⟨_, rfl⟩
  rw [← hR]
  have HR := Lib.hid hR
  clear hR
  go_enter Try.func50, Try.ntmps50
  go_upto_region 3 with (go_at_call 27; (with_reducible refine N1.out.mono ?_); rintro e w3 ⟨rfl, r3, c3⟩; have R3 := Lib.hid r3; have C3 := Lib.hid c3; clear r3 c3)
  obtain ⟨xb, hxb⟩ : ∃ g, w3.heap.size = g := ⟨_, rfl⟩
  obtain ⟨W4, hW4⟩ : ∃ W, w3.alloc (.cells #[.int .i64 (h1.1 : Int), .slice none 0 0, .slice none 0 0, .slice none 0 0, .slice none 0 0] 60) = W := ⟨_, rfl⟩
  have hMx : rb + 1 < xb := by have := C3.out.size; omega
  have D4 : DD w W4 rb (rb + 1) xb A b c h1.2 := by
    refine ⟨by rw [← hW4]; exact R3.out.alloc _, ?_, ?_, by omega, hMx⟩
    · rw [← hW4]; exact Blk.alloc (RBK.out.keep (C3.out.block rb RBK.out.lt fun e => by have e' : rb = rb + 1 := e; omega)) _
    · rw [← hW4]; exact ((HB2.out.trans (C3.out.below (by have := RBK.out.lt; omega) fun i hi => by have e' : i = rb + 1 := hi; omega)).alloc (by omega) _)
  have X4 : NX W4 xb (xb + 1) 60 86 (h1.1 : Int) [] [] [] [] (.slice none 0 0) (.slice none 0 0) (.slice none 0 0) (.slice none 0 0) (.slice none 0 0) (.slice none 0 0) (.slice none 0 0) (.slice none 0 0) :=
    ⟨by rw [← hW4, ← hxb]; exact Blk.new _ _ _, World.ownsRow_nil _ _ _ _, World.ownsRow_nil _ _ _ _, World.ownsRow_nil _ _ _ _, World.ownsRow_nil _ _ _ _, fun g h => by simp [Value.ownBlock] at h, by omega, by rw [← hW4, ← hxb]; simp, by decide, by decide⟩
  have N2 := Lib.hid (cnum_any D4.rc)
  rw [← HH2.out] at N2
  have D4 := Lib.hid D4
  have X4 := Lib.hid X4
  clear N1
  obtain ⟨many, hmany⟩ : ∃ m, m = h2.1 := ⟨_, rfl⟩
  obtain ⟨st2, hst2⟩ : ∃ m, m = h2.2 := ⟨_, rfl⟩
  obtain ⟨hd, hhd⟩ : ∃ m, m = h1.1 := ⟨_, rfl⟩
  rw [← hmany, ← hst2] at N2
  rw [← hmany] at l2
  rw [← hhd] at hW4 l1
  have X4' := X4.out
  rw [← hhd] at X4'
  have X4 := Lib.hid X4'
  clear X4'
  have Jhd := Lib.hid (show hd = (Nd.nx (.ok b)).1 ∧ many = (Nd.nx (Nd.nx (.ok b)).2).1 ∧ st2 = (Nd.nx (Nd.nx (.ok b)).2).2 from ⟨by rw [hhd, HH1.out], by rw [hmany, HH2.out, HH1.out], by rw [hst2, HH2.out, HH1.out]⟩)
  rw [← hhd]
  clear hmany hst2 hhd HH1 HH2
  go_upto_region 4 with (go_at_call 27; (with_reducible refine N2.out.mono ?_); rintro e w5 ⟨rfl, r5, c5⟩; have D5 := Lib.hid (D4.out.num r5 c5); have X5 := Lib.hid (X4.out.chg c5 (fun i hi => by have e' : i = rb + 1 := hi; omega)); clear r5 c5)
  by_cases hmm : (∃ s, st2 = .ok s) ∧ 8 < many
  · obtain ⟨⟨s, rfl⟩, hm⟩ := hmm
    have hdec : Nd.dec b = (Nd.zero, 4) := Nd.dec_many Jhd.out.2.2.symm (by rw [← Jhd.out.2.1]; exact hm)
    have hdec := HR.out.trans hdec
    obtain ⟨a0, e0, hBM, hr0⟩ := D5.out.rc.ex
    obtain ⟨rfl, -, -⟩ := hr0
    have kc : w5.cell? ⟨rb + 1, 2, none⟩ = some (.int .i64 0) := hBM.cell 2
    have z8 : decide ((8 : Int) < (many : Int)) = true := by rw [decide_eq_true_eq]; omega
    have z8' : decide (8 < many) = true := by rw [decide_eq_true_eq]; exact hm
    have rbk := D5.out.rbk
    have Bl := Lib.hid D5.out.bel
    obtain ⟨s1, s2, s3, s4, s5, q1, q2, q3, q4, q5, ⟨f0, f1, f2, f3, f4⟩, ⟨u0, u1, u2, u3, u4⟩, B5, b5, -⟩ := st5 rbk (Nat.le_refl rb) Bl.out (.int .i64 0) (.slice none 0 0) (.slice none 0 0) (.slice none 0 0) (.slice none 0 0)
    have t0 := B5.cell 0
    have t1 := B5.cell 1
    have t2 := B5.cell 2
    have t3 := B5.cell 3
    have t4 := B5.cell 4
    have Fin := Lib.hid (show ∃ v, Ending.returned (.tuple #[.agg ndZ, .int .i64 4]) = Ending.returned (.tuple #[v, .int .i64 (R.2 : Int)]) ∧ NdAt s5 s5.heap.size v R.1 ∧ Below rb w s5 from ⟨_, by rw [hdec]; rfl, by rw [hdec]; exact NdAt.zero _ _, b5⟩)
    clear hm hdec hBM rbk B5 b5
    go_wp2_with fail
    refine bodyPost_ret (v := .tuple #[.agg ndZ, .int .i64 4]) ?_ rfl Fin.out
    simp [results, Try.results50]
    go_simp
  have hK0 : Nd.KJ b hd many 0 ⟨(hd : Int), [], [], [], []⟩ st2 ∧ many ≤ 8 := by
    obtain ⟨j1, j2, j3⟩ := Jhd.out
    cases hs : st2 with
    | error e =>
      have := Nd.KJ.start_bad (b := b) (e := e) hd many 0 ⟨(hd : Int), [], [], [], []⟩ (by rw [← j3, hs])
      exact ⟨this.1, by rw [j2, this.2]; omega⟩
    | ok s =>
      have hm : ¬ 8 < many := fun h => hmm ⟨⟨s, hs⟩, h⟩
      have := Nd.KJ.start (b := b) (s := s) (by rw [← j3, hs]) (by rw [← j2]; exact hm)
      rw [← j1, ← j2] at this
      exact ⟨this, by omega⟩
  have hm8 := hK0.2
  have K0 := Lib.hid hK0.1
  have z8 : decide ((8 : Int) < (many : Int)) = false := by rw [decide_eq_false_iff_not]; omega
  have z8' : decide (8 < many) = false := by rw [decide_eq_false_iff_not]; omega
  clear hK0 hmm
  obtain ⟨a0, e0, hBM, -⟩ := D5.out.rc.ex
  have kc : w5.cell? ⟨rb + 1, 2, none⟩ = some (.int .i64 (e0 : Int)) := hBM.cell 2
  clear hBM
  go_cut [27] from 19 to 27 (fun v wx => v = .bool false ∧ wx = w5)
  case first =>
    obtain ⟨q, hq⟩ : ∃ q, ((e0 : Int) == 0) = q := ⟨_, rfl⟩
    cases q with
    | false =>
      go_wp2_with fail
      go_meet
      exact ⟨rfl, rfl⟩
    | true =>
      go_wp2_with fail
      go_meet
      exact ⟨rfl, rfl⟩
  case rest =>
  obtain ⟨rfl, hwc⟩ := hcut
  subst hwc
  clear kc z8 z8' N2 HB2 RBK R3 C3 D4 Jhd
  go_wp2_with fail
  go_loopw [7] (fun v wr => ∃ (i : Nat) (n : Nd.N) (st : Nd.St) (v1 v2 v3 v4 : Value), v = .int .i64 (i : Int) ∧ i ≤ many ∧ Nd.EntsI hd i n ∧ Nd.KJ b hd many i n st ∧ NX wr xb (xb + 1) 60 86 (hd : Int) n.ks n.ps n.gs n.cs v1 v2 v3 v4 v1 v2 v3 v4 ∧ DD w wr rb (rb + 1) xb A b c st) (fun v _ => many - (intOf v).toNat)
  case atStart => exact ⟨0, _, st2, _, _, _, _, rfl, Nat.zero_le _, ⟨rfl, rfl, by split <;> rfl, by split <;> rfl, by split <;> rfl⟩, K0.out, X5.out, D5.out⟩
  case round =>
    obtain ⟨i, n, st, v1, v2, v3, v4, rfl, hi, hE, hK, hX, hD⟩ := hrel
    obtain ⟨ks, hks⟩ : ∃ ks, ks = n.ks := ⟨_, rfl⟩
    obtain ⟨ps, hps⟩ : ∃ ps, ps = n.ps := ⟨_, rfl⟩
    obtain ⟨gs, hgs⟩ : ∃ gs, gs = n.gs := ⟨_, rfl⟩
    obtain ⟨cs, hcs⟩ : ∃ cs, cs = n.cs := ⟨_, rfl⟩
    rw [← hks, ← hps, ← hgs, ← hcs] at hX
    have HE := Lib.hid hE
    have HK := Lib.hid hK
    have HD := Lib.hid hD
    have HX := Lib.hid hX
    obtain ⟨D1, d1, e1⟩ := own_slice hX.o1
    obtain ⟨D2, d2, e2⟩ := own_slice hX.o2
    obtain ⟨D3, d3, e3⟩ := own_slice hX.o3
    obtain ⟨D4, d4, e4⟩ := own_slice hX.o4
    subst e1 e2 e3 e4
    have HL := Lib.hid (show n = ⟨(hd : Int), ks, ps, gs, cs⟩ by rw [← hE.hh, hks, hps, hgs, hcs])
    have lk : ks.length = i := by rw [hks]; exact hE.ks
    have lp : ps.length ≤ 8 := by rw [hps, hE.ps]; split <;> omega
    have lg : gs.length ≤ 8 := by rw [hgs, hE.gs]; split <;> omega
    have lc : cs.length ≤ 8 := by rw [hcs, hE.cs]; split <;> omega
    obtain ⟨a0, e0, hBM, hr0⟩ := hD.rc.ex
    have kc : wr.cell? ⟨rb + 1, 2, none⟩ = some (.int .i64 (e0 : Int)) := hBM.cell 2
    clear hE hK hX hD hBM hks hps hgs hcs
    obtain ⟨k1, hk1⟩ : ∃ k, k = ks.length := ⟨_, rfl⟩
    obtain ⟨k2, hk2⟩ : ∃ k, k = ps.length := ⟨_, rfl⟩
    obtain ⟨k3, hk3⟩ : ∃ k, k = gs.length := ⟨_, rfl⟩
    obtain ⟨k4, hk4⟩ : ∃ k, k = cs.length := ⟨_, rfl⟩
    have HX' := HX.out
    rw [← hk1, ← hk2, ← hk3, ← hk4] at HX'
    have HX := Lib.hid HX'
    clear HX'
    rw [← hk1] at lk
    rw [← hk2] at lp
    rw [← hk3] at lg
    rw [← hk4] at lc
    have E1 := Lib.hid hk1
    have E2 := Lib.hid hk2
    have E3 := Lib.hid hk3
    have E4 := Lib.hid hk4
    clear hk1 hk2 hk3 hk4
    have lk8 : k1 ≤ 8 := by omega
    clear lk
    by_cases him : i < many
    · have z0 : decide ((i : Int) < (many : Int)) = true := by rw [decide_eq_true_eq]; omega
      have z0' : decide (i < many) = true := by rw [decide_eq_true_eq]; exact him
      cases st with
      | error k =>
        obtain ⟨rfl, hk0⟩ := hr0
        clear him
        have q1 : ((e0 : Int) == 0) = false := by rw [beq_eq_false_iff_ne]; omega
        have hR : R = (Nd.zero, e0) := HR.out.trans HK.out.1
        have NE := Lib.hid (cend_any HD.out.rc)
        have z1 : ((e0 : Int) == 0) = false := by rw [beq_eq_false_iff_ne]; omega
        have z1' : ((e0 : Int) != 0) = true := by rw [bne_iff_ne]; omega
        have Rb := Lib.hid (fun (V : World) (hV : Below wr.heap.size wr V) => show Blk V rb 60 ndZ ∧ Below rb w V from ⟨HD.out.rbk.keep (hV.block rb HD.out.rbk.lt), HD.out.bel.trans (hV.mono (Nat.le_of_lt HD.out.rbk.lt))⟩)
        have Fz := Lib.hid (fun (V : World) (hb : Below rb w V) => show ∃ v, Ending.returned (.tuple #[.agg ndZ, .int .i64 (e0 : Int)]) = Ending.returned (.tuple #[v, .int .i64 (R.2 : Int)]) ∧ NdAt V V.heap.size v R.1 ∧ Below rb w V from ⟨_, by rw [hR], by rw [hR]; exact NdAt.zero _ _, hb⟩)
        clear hR
        go_upto_region 18 with (go_at_call 29; (with_reducible refine NE.out.mono ?_); rintro e w6 ⟨rfl, b6⟩; have B6 := Lib.hid b6; clear b6)
        have hEk : (endOf (.error e0) : Int) = (e0 : Int) := rfl
        rw [hEk]
        clear hEk
        obtain ⟨rbk, hbl⟩ := Rb.out w6 B6.out
        obtain ⟨s1, s2, s3, s4, s5, q1, q2, q3, q4, q5, ⟨f0, f1, f2, f3, f4⟩, ⟨u0, u1, u2, u3, u4⟩, B5, b5, -⟩ := st5 rbk (Nat.le_refl rb) hbl (.int .i64 0) (.slice none 0 0) (.slice none 0 0) (.slice none 0 0) (.slice none 0 0)
        have t0 := B5.cell 0
        have t1 := B5.cell 1
        have t2 := B5.cell 2
        have t3 := B5.cell 3
        have t4 := B5.cell 4
        have Fin := Lib.hid (Fz.out s5 b5)
        clear rbk hbl B5 b5
        go_wp2_with fail
        refine bodyPost_ret (v := .tuple #[.agg ndZ, .int .i64 (e0 : Int)]) ?_ rfl Fin.out
        simp [results, Try.results50]
        go_simp
      | ok t =>
        obtain ⟨rfl, -, -⟩ := hr0
        obtain ⟨x1, hx1⟩ : ∃ x, x = Nd.nx (.ok t) := ⟨_, rfl⟩
        obtain ⟨x2, hx2⟩ : ∃ x, x = Nd.nx x1.2 := ⟨_, rfl⟩
        obtain ⟨x3, hx3⟩ : ∃ x, x = Nd.nx x2.2 := ⟨_, rfl⟩
        obtain ⟨x4, hx4⟩ : ∃ x, x = Nd.nx x3.2 := ⟨_, rfl⟩
        obtain ⟨x5, hx5⟩ : ∃ x, x = Nd.nx x4.2 := ⟨_, rfl⟩
        have Nx1 := Lib.hid (fun (V : World) (h : RC V (rb + 1) A b c (.ok t)) => cnum_is h hx1)
        have Nx2 := Lib.hid (fun (V : World) (h : RC V (rb + 1) A b c x1.2) => cnum_is h hx2)
        have Nx3 := Lib.hid (fun (V : World) (h : RC V (rb + 1) A b c x2.2) => cnum_is h hx3)
        have Nx4 := Lib.hid (fun (V : World) (h : RC V (rb + 1) A b c x3.2) => cnum_is h hx4)
        have Nx5 := Lib.hid (fun (V : World) (h : RC V (rb + 1) A b c x4.2) => cnum_is h hx5)
        have Xs5 := Lib.hid (show Nd.nxs 5 (.ok t) = ([x1.1, x2.1, x3.1, x4.1, x5.1], x5.2) from by
          simp only [Nd.nxs]
          rw [← hx1, ← hx2, ← hx3, ← hx4, ← hx5])
        have Xs4 := Lib.hid (show Nd.nxs 4 (.ok t) = ([x1.1, x2.1, x3.1, x4.1], x4.2) from by
          simp only [Nd.nxs]
          rw [← hx1, ← hx2, ← hx3, ← hx4])
        have St := Lib.hid (HK.out.step him)
        have Ei := Lib.hid (Nd.more_i HE.out (Nd.nxs (Nd.width hd) (.ok t)).1)
        clear hx1 hx2 hx3 hx4 hx5
        have Fm := Lib.hid (fun (i : Nat) (hi : FM (rb + 1) i) => show i ≠ xb ∧ i < xb + 1 from by have e' : i = rb + 1 := hi; omega)
        go_upto_region 9 with fail
        clear kc
        have hld : ldD1 = Op.load 51 (.tmp 41) := rfl
        rw [← hld]
        go_cut [] from 41 to 47 (fun wx => ∃ u, NX wx xb (xb + 1) 60 86 (hd : Int) (ks ++ [(x1.1 : Int)]) ps gs cs u (.slice D2 k2 d2) (.slice D3 k3 d3) (.slice D4 k4 d4) u (.slice D2 k2 d2) (.slice D3 k3 d3) (.slice D4 k4 d4) ∧ DD w wx rb (rb + 1) xb A b c x1.2)
        case first =>
          obtain ⟨i1, hi1, hz1, hs1, hb1⟩ := nint_parts
          have Dd := Lib.hid (HD.out.below (w' := wr.drew) (Below.refl xb wr).drew)
          have Xd := Lib.hid (HX.out.drew)
          have N1 := Lib.hid (Nx1.out _ Dd.out.rc)
          have yA : wr.drew.cell? ⟨xb, 1, none⟩ = some (.slice D1 k1 d1) := Xd.out.blk.cell 1
          go_region_held3 (fun _ => True) (trivial) (first
            | (go_at_call 27; ((with_reducible refine N1.out.mono ?_); rintro e w6 ⟨rfl, r6, c6⟩; have D6 := Lib.hid (Dd.out.num r6 c6); have X6 := Lib.hid (Xd.out.chg c6 Fm.out); have yB : w6.cell? ⟨xb, 1, none⟩ = some (.slice D1 k1 d1) := X6.out.blk.cell 1; have X7 := Lib.hid (X6.out.alloc (.cells #[.int .i64 (x1.1 : Int)] 3)); have yC : (w6.alloc (.cells #[.int .i64 (x1.1 : Int)] 3)).cell? ⟨xb, 1, none⟩ = some (.slice D1 k1 d1) := X7.out.blk.cell 1; clear r6 c6))
            | (refine step_append3 (base := xb + 1) _ rfl (.tmp 42) (.tmp 45) _ rfl Try.underlying51 hi1 hz1 hs1 hb1 rfl (by decide) rfl X7.out.o1 (m := 1) (news := [.int .i64 (x1.1 : Int)]) rfl rfl (by simp) (Nat.le_refl _) sl_one (by simp [Value.oneCell']) (by rw [← E1.out]; unfold maxLen; omega) (by rw [← E1.out]; omega) X7.out.hz ?_; intro v8 w8 g1 g2 g3; rw [← E1.out] at g1; have ap := X7.out.app1 (x1.1 : Int) E1.out g1 g2 g3; obtain ⟨D8, d8, rfl⟩ := own_slice g1; have X8 := Lib.hid ap.1; have fz : w8.frozen? ⟨xb, 1, none⟩ = false := X8.out.blk.frozen 1; have yD : w8.cell? ⟨xb, 1, none⟩ = some (.slice D1 k1 d1) := X8.out.blk.cell 1; have D8' := Lib.hid (D6.out.below ((below_alloc (Nat.le_of_lt X6.out.blk.lt) (.cells #[.int .i64 (x1.1 : Int)] 3)).trans ap.2)); clear ap g1 g2 g3))
          all_goals (go_wp2_with fail)
          all_goals (go_meet)
          all_goals exact ⟨_, X8.out.set1 _, D8'.out.below (Below.setCell (Below.refl _ _) (p := ⟨xb, 1, none⟩) (Nat.le_refl _) _)⟩
        case rest =>
        obtain ⟨u, hX, hD⟩ := hcut
        obtain ⟨Dk, dk, e9⟩ := own_slice hX.o1
        subst e9
        have HX := Lib.hid hX
        have HD := Lib.hid hD
        have y0 : wc.cell? ⟨xb, 0, none⟩ = some (.int .i64 (hd : Int)) := hX.blk.cell 0
        clear hX hD
        clear hld
        have N2 := Lib.hid (Nx2.out wc HD.out.rc)
        by_cases hz : hd = 0
        · have q0 : ((hd : Int) == 0) = true := by rw [beq_iff_eq]; omega
          have Fn := Lib.hid (fun (V : World) (a1 a2 a3 a4 : Value) (hX : NX V xb (xb + 1) 60 86 (hd : Int) (ks ++ [(x1.1 : Int)]) (ps ++ [((x2.1 : Int), (x3.1 : Int), (x4.1 : Int))]) (gs ++ [(x5.1 : Int)]) cs a1 a2 a3 a4 a1 a2 a3 a4) (hD : DD w V rb (rb + 1) xb A b c x5.2) => show ∃ (n : Nd.N) (st : Nd.St) (v1 v2 v3 v4 : Value), Nd.EntsI hd (i + 1) n ∧ Nd.KJ b hd many (i + 1) n st ∧ NX V xb (xb + 1) 60 86 (hd : Int) n.ks n.ps n.gs n.cs v1 v2 v3 v4 v1 v2 v3 v4 ∧ DD w V rb (rb + 1) xb A b c st from by
            have e : Nd.nxs (Nd.width hd) (.ok t) = ([x1.1, x2.1, x3.1, x4.1, x5.1], x5.2) := by rw [show Nd.width hd = 5 from by rw [hz]; rfl]; exact Xs5.out
            have s1 := St.out
            have s2 := Ei.out
            rw [e] at s1 s2
            have e2 : Nd.more n [x1.1, x2.1, x3.1, x4.1, x5.1] = ⟨(hd : Int), ks ++ [(x1.1 : Int)], ps ++ [((x2.1 : Int), (x3.1 : Int), (x4.1 : Int))], gs ++ [(x5.1 : Int)], cs⟩ := by
              rw [HL.out]
              unfold Nd.more
              rw [if_pos (show (hd : Int) = 0 by omega)]
              rfl
            rw [e2] at s1 s2
            exact ⟨_, _, a1, a2, a3, a4, s2, s1, hX, hD⟩)
          have n3 := HX.out.hz
          clear hz
          go_upto_region 13 with (first
            | (go_at_call 27; (with_reducible refine N2.out.mono ?_); rintro e w6 ⟨rfl, r6, c6⟩; have D6 := Lib.hid (HD.out.num r6 c6); have X6 := Lib.hid (HX.out.chg c6 Fm.out); have N3 := Lib.hid (Nx3.out w6 r6); clear r6 c6)
            | (go_at_call 27; (with_reducible refine N3.out.mono ?_); rintro e w7 ⟨rfl, r7, c7⟩; have D7 := Lib.hid (D6.out.num r7 c7); have X7 := Lib.hid (X6.out.chg c7 Fm.out); have N4 := Lib.hid (Nx4.out (w7.alloc (.cells #[.int .i64 (x2.1 : Int), .int .i64 (x3.1 : Int), .int .i64 0] 84)) (r7.alloc _)); clear r7 c7)
            | (go_at_call 27; (with_reducible refine N4.out.mono ?_); rintro e w9 ⟨rfl, r9, c9⟩; have X8 := X7.out.alloc (.cells #[.int .i64 (x2.1 : Int), .int .i64 (x3.1 : Int), .int .i64 0] 84); have xz := X7.out.hz; have X9 := Lib.hid (X8.chg c9 Fm.out); have D9 := Lib.hid ((D7.out.below (below_alloc (by omega) (.cells #[.int .i64 (x2.1 : Int), .int .i64 (x3.1 : Int), .int .i64 0] 84))).num r9 c9); have bp := Lib.hid ((Blk.new w7 84 #[.int .i64 (x2.1 : Int), .int .i64 (x3.1 : Int), .int .i64 0]).keep (w' := w9) (c9.block w7.heap.size (by simp) (fun e => by have e' : w7.heap.size = rb + 1 := e; omega))); have f9 : w9.frozen? ⟨w7.heap.size, 2, none⟩ = false := bp.out.frozen 2; have y9 : w9.cell? ⟨w7.heap.size, 2, none⟩ = some (.int .i64 0) := bp.out.cell 2; obtain ⟨W10, hW10⟩ : ∃ W, w9.setCell ⟨w7.heap.size, 2, none⟩ (.int .i64 (x4.1 : Int)) = W := ⟨_, rfl⟩; clear r9 c9 X8))
          have nw := X7.out.new_
          obtain ⟨pb, hpb⟩ : ∃ g, w7.heap.size = g := ⟨_, rfl⟩
          rw [hpb] at bp nw xz hW10 ⊢
          have X10 : NX W10 xb (xb + 1) 60 86 (hd : Int) (ks ++ [(x1.1 : Int)]) ps gs cs (.slice Dk (ks ++ [(x1.1 : Int)]).length dk) (.slice D2 k2 d2) (.slice D3 k3 d3) (.slice D4 k4 d4) (.slice Dk (ks ++ [(x1.1 : Int)]).length dk) (.slice D2 k2 d2) (.slice D3 k3 d3) (.slice D4 k4 d4) := by
            rw [← hW10]; exact X9.out.far (q := ⟨pb, 2, none⟩) (show pb ≠ xb by omega) nw.1 nw.2.1 nw.2.2.1 nw.2.2.2 _
          have b10 : Blk W10 pb 84 #[.int .i64 (x2.1 : Int), .int .i64 (x3.1 : Int), .int .i64 (x4.1 : Int)] := by rw [← hW10]; exact bp.out.set_ 2 _
          have D10 : DD w W10 rb (rb + 1) xb A b c x4.2 := by rw [← hW10]; exact D9.out.below (Below.setCell (Below.refl _ _) (p := ⟨pb, 2, none⟩) (show xb ≤ pb by omega) _)
          clear f9 y9 bp hW10 hpb y0
          obtain ⟨i1, hi1, hz1, hs1, hb1⟩ := nint_parts
          obtain ⟨i2, hi2, hz2, hs2, hb2⟩ := nplace_parts
          have XA := Lib.hid X10.drew
          have DA := Lib.hid (D10.below (w' := W10.drew) (Below.refl xb W10).drew)
          have kA : Blk W10.drew pb 84 #[.int .i64 (x2.1 : Int), .int .i64 (x3.1 : Int), .int .i64 (x4.1 : Int)] := b10
          have XB := Lib.hid (XA.out.alloc (.cells #[.int .i64 (x2.1 : Int), .int .i64 (x3.1 : Int), .int .i64 (x4.1 : Int)] 84))
          have DB := Lib.hid (DA.out.below (below_alloc (Nat.le_of_lt XA.out.blk.lt) (.cells #[.int .i64 (x2.1 : Int), .int .i64 (x3.1 : Int), .int .i64 (x4.1 : Int)] 84)))
          have kB := kA.alloc (.cells #[.int .i64 (x2.1 : Int), .int .i64 (x3.1 : Int), .int .i64 (x4.1 : Int)] 84)
          have yA2 : W10.drew.cell? ⟨xb, 2, none⟩ = some (.slice D2 k2 d2) := XA.out.blk.cell 2
          have yA3 : W10.drew.cell? ⟨xb, 3, none⟩ = some (.slice D3 k3 d3) := XA.out.blk.cell 3
          have yB2 : (W10.drew.alloc (.cells #[.int .i64 (x2.1 : Int), .int .i64 (x3.1 : Int), .int .i64 (x4.1 : Int)] 84)).cell? ⟨xb, 2, none⟩ = some (.slice D2 k2 d2) := XB.out.blk.cell 2
          have yB3 : (W10.drew.alloc (.cells #[.int .i64 (x2.1 : Int), .int .i64 (x3.1 : Int), .int .i64 (x4.1 : Int)] 84)).cell? ⟨xb, 3, none⟩ = some (.slice D3 k3 d3) := XB.out.blk.cell 3
          have yBa2 : (W10.alloc (.cells #[.int .i64 (x2.1 : Int), .int .i64 (x3.1 : Int), .int .i64 (x4.1 : Int)] 84)).cell? ⟨xb, 2, none⟩ = some (.slice D2 k2 d2) := yB2
          have yBb2 : (W10.alloc (.cells #[.int .i64 (x2.1 : Int), .int .i64 (x3.1 : Int), .int .i64 (x4.1 : Int)] 84)).drew.cell? ⟨xb, 2, none⟩ = some (.slice D2 k2 d2) := yB2
          have yBa3 : (W10.alloc (.cells #[.int .i64 (x2.1 : Int), .int .i64 (x3.1 : Int), .int .i64 (x4.1 : Int)] 84)).cell? ⟨xb, 3, none⟩ = some (.slice D3 k3 d3) := yB3
          have yBb3 : (W10.alloc (.cells #[.int .i64 (x2.1 : Int), .int .i64 (x3.1 : Int), .int .i64 (x4.1 : Int)] 84)).drew.cell? ⟨xb, 3, none⟩ = some (.slice D3 k3 d3) := yB3
          have pu2 : (Value.slice D2 k2 d2).ownBlock ≠ some pb := nw.2.1
          have pu3 : (Value.slice D3 k3 d3).ownBlock ≠ some pb := nw.2.2.1
          have Kp := Lib.hid (fun (V : World) (h : Blk V pb 84 #[.int .i64 (x2.1 : Int), .int .i64 (x3.1 : Int), .int .i64 (x4.1 : Int)]) => show V.cell? ⟨pb, 0, none⟩ = some (.int .i64 (x2.1 : Int)) ∧ V.cell? ⟨pb, 1, none⟩ = some (.int .i64 (x3.1 : Int)) ∧ V.cell? ⟨pb, 2, none⟩ = some (.int .i64 (x4.1 : Int)) from ⟨h.cell 0, h.cell 1, h.cell 2⟩)
          clear X10 D10 b10 nw
          have hld2 : ldD2 = Op.load 57 (.tmp 59) := rfl
          have hld3 : ldD3 = Op.load 51 (.tmp 64) := rfl
          rw [← hld2, ← hld3]
          go_region_held3 (fun V => V.cell? ⟨pb, 0, none⟩ = some (.int .i64 (x2.1 : Int)) ∧ V.cell? ⟨pb, 1, none⟩ = some (.int .i64 (x3.1 : Int)) ∧ V.cell? ⟨pb, 2, none⟩ = some (.int .i64 (x4.1 : Int))) (first | exact Kp.out _ ks2 | exact Kp.out _ ks1 | exact Kp.out _ k13 | exact Kp.out _ k12a | exact Kp.out _ k12 | exact Kp.out _ k11 | exact Kp.out _ kB | exact Kp.out _ kA) (first
            | (go_at_call 27; ((with_reducible refine N5.out.mono ?_); rintro e w12 ⟨rfl, r12, c12⟩; have D12 := Lib.hid (D11.out.num r12 c12); have X12 := Lib.hid (X11.out.chg c12 Fm.out); have k12 := k11.keep (c12.block pb k11.lt (fun e => by have e' : pb = rb + 1 := e; omega)); have X12a := Lib.hid (X12.out.alloc (.cells #[.int .i64 (x5.1 : Int)] 3)); have k12a := k12.alloc (.cells #[.int .i64 (x5.1 : Int)] 3); have yD3 : w12.cell? ⟨xb, 3, none⟩ = some (.slice D3 k3 d3) := X12.out.blk.cell 3; have yE3 : (w12.alloc (.cells #[.int .i64 (x5.1 : Int)] 3)).cell? ⟨xb, 3, none⟩ = some (.slice D3 k3 d3) := X12a.out.blk.cell 3; clear r12 c12))
            | (refine step_append3 (base := xb + 1) _ rfl (.tmp 60) (.tmp 62) _ rfl Try.underlying57 hi2 hz2 hs2 hb2 rfl (by decide) rfl XB.out.o2 (m := 1) (news := [.int .i64 (x2.1 : Int), .int .i64 (x3.1 : Int), .int .i64 (x4.1 : Int)]) rfl rfl (by simp) (Nat.le_refl _) sl_three' (by simp [Value.oneCell']) (by rw [← E2.out]; unfold maxLen; omega) (by rw [← E2.out]; omega) XB.out.hz ?_; intro v11 w11 g1 g2 g3; rw [← E2.out] at g1; have ap := XB.out.app2 ((x2.1 : Int), (x3.1 : Int), (x4.1 : Int)) E2.out g1 g2 g3; obtain ⟨P8, p8, rfl⟩ := own_slice g1; have X11 := Lib.hid ap.1; have D11 := Lib.hid (DB.out.below ap.2); have k11 := kB.keep (g2.block pb kB.lt (fun e => pu2 e.symm)); have N5 := Lib.hid (Nx5.out w11 D11.out.rc); have yC3 : w11.cell? ⟨xb, 3, none⟩ = some (.slice D3 k3 d3) := X11.out.blk.cell 3; clear ap g1 g2 g3)
            | (refine step_append3 (base := xb + 1) _ rfl (.tmp 65) (.tmp 68) _ rfl Try.underlying51 hi1 hz1 hs1 hb1 rfl (by decide) rfl X12a.out.o3 (m := 1) (news := [.int .i64 (x5.1 : Int)]) rfl rfl (by simp) (Nat.le_refl _) sl_one (by simp [Value.oneCell']) (by rw [← E3.out]; unfold maxLen; omega) (by rw [← E3.out]; omega) X12a.out.hz ?_; intro v13 w13 g1 g2 g3; rw [← E3.out] at g1; have ap := X12a.out.app3 (x5.1 : Int) E3.out g1 g2 g3; obtain ⟨G8, q8, rfl⟩ := own_slice g1; have X13 := Lib.hid ap.1; have k13 := k12a.keep (g2.block pb k12a.lt (fun e => pu3 e.symm)); have D13 := Lib.hid (D12.out.below ((below_alloc (Nat.le_of_lt X12.out.blk.lt) (.cells #[.int .i64 (x5.1 : Int)] 3)).trans ap.2)); have f2 : w13.frozen? ⟨xb, 2, none⟩ = false := X13.out.blk.frozen 2; have u2 : w13.cell? ⟨xb, 2, none⟩ = some (.slice D2 k2 d2) := X13.out.blk.cell 2; obtain ⟨s1, hs1⟩ : ∃ s, w13.setCell ⟨xb, 2, none⟩ (.slice P8 (k2 + 1) p8) = s := ⟨_, rfl⟩; have XS1 := X13.out.set2 (.slice P8 (k2 + 1) p8); rw [hs1] at XS1; have f3 : s1.frozen? ⟨xb, 3, none⟩ = false := XS1.blk.frozen 3; have u3 : s1.cell? ⟨xb, 3, none⟩ = some (.slice D3 k3 d3) := XS1.blk.cell 3; have ks1 := k13.far (p := ⟨xb, 2, none⟩) (show xb ≠ pb by omega) (.slice P8 (k2 + 1) p8); rw [hs1] at ks1; obtain ⟨s2, hs2⟩ : ∃ s, s1.setCell ⟨xb, 3, none⟩ (.slice G8 (k3 + 1) q8) = s := ⟨_, rfl⟩; have XS2 := XS1.set3 (.slice G8 (k3 + 1) q8); rw [hs2] at XS2; have ks2 := ks1.far (p := ⟨xb, 3, none⟩) (show xb ≠ pb by omega) (.slice G8 (k3 + 1) q8); rw [hs2] at ks2; have DS2 := Lib.hid (show DD w s2 rb (rb + 1) xb A b c x5.2 from by rw [← hs2, ← hs1]; exact D13.out.below (((Below.refl _ _).setCell (p := ⟨xb, 2, none⟩) (Nat.le_refl _) _).setCell (p := ⟨xb, 3, none⟩) (Nat.le_refl _) _)); have XF := Lib.hid XS2; clear ap g1 g2 g3 XS1 XS2))
          all_goals
            obtain ⟨n', st', a1, a2, a3, a4, r1, r2, r3, r4⟩ := Fn.out _ _ _ _ _ XF.out DS2.out
            have R1 := Lib.hid r1
            have R2 := Lib.hid r2
            have R3 := Lib.hid r3
            have R4 := Lib.hid r4
            clear r1 r2 r3 r4
            go_wp2_with fail
            go_roundw
            case rel => exact ⟨i + 1, n', st', a1, a2, a3, a4, by go_num, by omega, R1.out, R2.out, R3.out, R4.out⟩
            case measure => simp [intOf]; omega
        · have q0 : ((hd : Int) == 0) = false := by rw [beq_eq_false_iff_ne]; omega
          have Fn := Lib.hid (fun (V : World) (a1 a2 a3 a4 : Value) (hX : NX V xb (xb + 1) 60 86 (hd : Int) (ks ++ [(x1.1 : Int)]) ps gs (cs ++ [((x2.1 : Int), (x3.1 : Int), (x4.1 : Int))]) a1 a2 a3 a4 a1 a2 a3 a4) (hD : DD w V rb (rb + 1) xb A b c x4.2) => show ∃ (n : Nd.N) (st : Nd.St) (v1 v2 v3 v4 : Value), Nd.EntsI hd (i + 1) n ∧ Nd.KJ b hd many (i + 1) n st ∧ NX V xb (xb + 1) 60 86 (hd : Int) n.ks n.ps n.gs n.cs v1 v2 v3 v4 v1 v2 v3 v4 ∧ DD w V rb (rb + 1) xb A b c st from by
            have e : Nd.nxs (Nd.width hd) (.ok t) = ([x1.1, x2.1, x3.1, x4.1], x4.2) := by rw [show Nd.width hd = 4 from by unfold Nd.width; rw [if_neg hz]]; exact Xs4.out
            have s1 := St.out
            have s2 := Ei.out
            rw [e] at s1 s2
            have e2 : Nd.more n [x1.1, x2.1, x3.1, x4.1] = ⟨(hd : Int), ks ++ [(x1.1 : Int)], ps, gs, cs ++ [((x2.1 : Int), (x3.1 : Int), (x4.1 : Int))]⟩ := by
              rw [HL.out]
              unfold Nd.more
              rw [if_neg (show ¬ (hd : Int) = 0 by omega)]
              rfl
            rw [e2] at s1 s2
            exact ⟨_, _, a1, a2, a3, a4, s2, s1, hX, hD⟩)
          have n3 := HX.out.hz
          clear hz
          go_upto_region 16 with (first
            | (go_at_call 27; (with_reducible refine N2.out.mono ?_); rintro e w6 ⟨rfl, r6, c6⟩; have D6 := Lib.hid (HD.out.num r6 c6); have X6 := Lib.hid (HX.out.chg c6 Fm.out); have N3 := Lib.hid (Nx3.out w6 r6); clear r6 c6)
            | (go_at_call 27; (with_reducible refine N3.out.mono ?_); rintro e w7 ⟨rfl, r7, c7⟩; have D7 := Lib.hid (D6.out.num r7 c7); have X7 := Lib.hid (X6.out.chg c7 Fm.out); have N4 := Lib.hid (Nx4.out (w7.alloc (.cells #[.int .i64 (x2.1 : Int), .int .i64 (x3.1 : Int), .int .i64 0] 86)) (r7.alloc _)); clear r7 c7)
            | (go_at_call 27; (with_reducible refine N4.out.mono ?_); rintro e w9 ⟨rfl, r9, c9⟩; have X8 := X7.out.alloc (.cells #[.int .i64 (x2.1 : Int), .int .i64 (x3.1 : Int), .int .i64 0] 86); have xz := X7.out.hz; have X9 := Lib.hid (X8.chg c9 Fm.out); have D9 := Lib.hid ((D7.out.below (below_alloc (by omega) (.cells #[.int .i64 (x2.1 : Int), .int .i64 (x3.1 : Int), .int .i64 0] 86))).num r9 c9); have bp := Lib.hid ((Blk.new w7 86 #[.int .i64 (x2.1 : Int), .int .i64 (x3.1 : Int), .int .i64 0]).keep (w' := w9) (c9.block w7.heap.size (by simp) (fun e => by have e' : w7.heap.size = rb + 1 := e; omega))); have f9 : w9.frozen? ⟨w7.heap.size, 2, none⟩ = false := bp.out.frozen 2; have y9 : w9.cell? ⟨w7.heap.size, 2, none⟩ = some (.int .i64 0) := bp.out.cell 2; obtain ⟨W10, hW10⟩ : ∃ W, w9.setCell ⟨w7.heap.size, 2, none⟩ (.int .i64 (x4.1 : Int)) = W := ⟨_, rfl⟩; clear r9 c9 X8))
          have nw := X7.out.new_
          obtain ⟨pb, hpb⟩ : ∃ g, w7.heap.size = g := ⟨_, rfl⟩
          rw [hpb] at bp nw xz hW10 ⊢
          have X10 : NX W10 xb (xb + 1) 60 86 (hd : Int) (ks ++ [(x1.1 : Int)]) ps gs cs (.slice Dk (ks ++ [(x1.1 : Int)]).length dk) (.slice D2 k2 d2) (.slice D3 k3 d3) (.slice D4 k4 d4) (.slice Dk (ks ++ [(x1.1 : Int)]).length dk) (.slice D2 k2 d2) (.slice D3 k3 d3) (.slice D4 k4 d4) := by
            rw [← hW10]; exact X9.out.far (q := ⟨pb, 2, none⟩) (show pb ≠ xb by omega) nw.1 nw.2.1 nw.2.2.1 nw.2.2.2 _
          have b10 : Blk W10 pb 86 #[.int .i64 (x2.1 : Int), .int .i64 (x3.1 : Int), .int .i64 (x4.1 : Int)] := by rw [← hW10]; exact bp.out.set_ 2 _
          have D10 : DD w W10 rb (rb + 1) xb A b c x4.2 := by rw [← hW10]; exact D9.out.below (Below.setCell (Below.refl _ _) (p := ⟨pb, 2, none⟩) (show xb ≤ pb by omega) _)
          clear f9 y9 bp hW10 hpb y0
          obtain ⟨i2, hi2, hz2, hs2, hb2⟩ := kid_parts
          have yA4 : W10.cell? ⟨xb, 4, none⟩ = some (.slice D4 k4 d4) := X10.blk.cell 4
          have yP0 : W10.cell? ⟨pb, 0, none⟩ = some (.int .i64 (x2.1 : Int)) := b10.cell 0
          have yP1 : W10.cell? ⟨pb, 1, none⟩ = some (.int .i64 (x3.1 : Int)) := b10.cell 1
          have yP2 : W10.cell? ⟨pb, 2, none⟩ = some (.int .i64 (x4.1 : Int)) := b10.cell 2
          have XB := Lib.hid (X10.alloc (.cells #[.int .i64 (x2.1 : Int), .int .i64 (x3.1 : Int), .int .i64 (x4.1 : Int)] 86))
          have DB := Lib.hid (D10.below (below_alloc (Nat.le_of_lt X10.blk.lt) (.cells #[.int .i64 (x2.1 : Int), .int .i64 (x3.1 : Int), .int .i64 (x4.1 : Int)] 86)))
          clear X10 D10 b10 nw
          go_wp2_with (at_builtin; refine wpList_append_sls (base := xb + 1) _ rfl (.tmp 81) (.tmp 83) _ rfl Try.underlying58 hi2 hz2 hs2 hb2 rfl (by decide) rfl XB.out.o4 (m := 1) (news := [.int .i64 (x2.1 : Int), .int .i64 (x3.1 : Int), .int .i64 (x4.1 : Int)]) rfl rfl (by simp) (Nat.le_refl _) sl_three' (by simp [Value.oneCell']) (by rw [← E4.out]; unfold maxLen; omega) (by rw [← E4.out]; omega) XB.out.hz ?_; intro v11 w11 g1 g2 g3; rw [← E4.out] at g1; have ap := XB.out.app4 ((x2.1 : Int), (x3.1 : Int), (x4.1 : Int)) E4.out g1 g2 g3; obtain ⟨P8, p8, rfl⟩ := own_slice g1; have X11 := ap.1; have D11 := Lib.hid (DB.out.below ap.2); have f4 : w11.frozen? ⟨xb, 4, none⟩ = false := X11.blk.frozen 4; have u4 : w11.cell? ⟨xb, 4, none⟩ = some (.slice D4 k4 d4) := X11.blk.cell 4; obtain ⟨s1, hs1⟩ : ∃ s, w11.setCell ⟨xb, 4, none⟩ (.slice P8 (k4 + 1) p8) = s := ⟨_, rfl⟩; have XF := Lib.hid (X11.set4 (.slice P8 (k4 + 1) p8)); rw [hs1] at XF; have DS2 := Lib.hid (show DD w s1 rb (rb + 1) xb A b c x4.2 from by rw [← hs1]; exact D11.out.below ((Below.refl _ _).setCell (p := ⟨xb, 4, none⟩) (Nat.le_refl _) _)); clear ap g1 g2 g3 X11)
          obtain ⟨n', st', a1, a2, a3, a4, r1, r2, r3, r4⟩ := Fn.out _ _ _ _ _ XF.out DS2.out
          have R1 := Lib.hid r1
          have R2 := Lib.hid r2
          have R3 := Lib.hid r3
          have R4 := Lib.hid r4
          clear r1 r2 r3 r4
          go_roundw
          case rel => exact ⟨i + 1, n', st', a1, a2, a3, a4, by go_num, by omega, R1.out, R2.out, R3.out, R4.out⟩
          case measure => simp [intOf]; omega
    · have z0 : decide ((i : Int) < (many : Int)) = false := by rw [decide_eq_false_iff_not]; omega
      have z0' : decide (i < many) = false := by rw [decide_eq_false_iff_not]; exact him
      cases st with
      | error k =>
        obtain ⟨rfl, hk0⟩ := hr0
        clear him kc
        have hR : R = (Nd.zero, e0) := HR.out.trans HK.out.1
        have NE := Lib.hid (cend_any HD.out.rc)
        have z1 : ((e0 : Int) == 0) = false := by rw [beq_eq_false_iff_ne]; omega
        have z1' : ((e0 : Int) != 0) = true := by rw [bne_iff_ne]; omega
        have Rb := Lib.hid (fun (V : World) (hV : Below wr.heap.size wr V) => show Blk V rb 60 ndZ ∧ Below rb w V from ⟨HD.out.rbk.keep (hV.block rb HD.out.rbk.lt), HD.out.bel.trans (hV.mono (Nat.le_of_lt HD.out.rbk.lt))⟩)
        have Fz := Lib.hid (fun (V : World) (hb : Below rb w V) => show ∃ v, Ending.returned (.tuple #[.agg ndZ, .int .i64 (e0 : Int)]) = Ending.returned (.tuple #[v, .int .i64 (R.2 : Int)]) ∧ NdAt V V.heap.size v R.1 ∧ Below rb w V from ⟨_, by rw [hR], by rw [hR]; exact NdAt.zero _ _, hb⟩)
        clear hR
        go_upto_region 18 with (go_at_call 29; (with_reducible refine NE.out.mono ?_); rintro e w6 ⟨rfl, b6⟩; have B6 := Lib.hid b6; clear b6)
        have hEk : (endOf (.error e0) : Int) = (e0 : Int) := rfl
        rw [hEk]
        clear hEk
        obtain ⟨rbk, hbl⟩ := Rb.out w6 B6.out
        obtain ⟨s1, s2, s3, s4, s5, q1, q2, q3, q4, q5, ⟨f0, f1, f2, f3, f4⟩, ⟨u0, u1, u2, u3, u4⟩, B5, b5, -⟩ := st5 rbk (Nat.le_refl rb) hbl (.int .i64 0) (.slice none 0 0) (.slice none 0 0) (.slice none 0 0) (.slice none 0 0)
        have t0 := B5.cell 0
        have t1 := B5.cell 1
        have t2 := B5.cell 2
        have t3 := B5.cell 3
        have t4 := B5.cell 4
        have Fin := Lib.hid (Fz.out s5 b5)
        clear rbk hbl B5 b5
        go_wp2_with fail
        refine bodyPost_ret (v := .tuple #[.agg ndZ, .int .i64 (e0 : Int)]) ?_ rfl Fin.out
        simp [results, Try.results50]
        go_simp
      | ok t =>
        have HK := Lib.hid (show Nd.KJ b hd many many n (.ok t) from by have := HK.out; rw [show i = many by omega] at this; exact this)
        clear him kc hr0
        have hKf := HK.out.fin
        have NE := Lib.hid (cend_any HD.out.rc)
        have Rb := Lib.hid (fun (V : World) (hV : Below wr.heap.size wr V) => show Blk V rb 60 ndZ ∧ Below rb w V from ⟨HD.out.rbk.keep (hV.block rb HD.out.rbk.lt), HD.out.bel.trans (hV.mono (Nat.le_of_lt HD.out.rbk.lt))⟩)
        by_cases hu : t ≠ []
        · have hR : R = (Nd.zero, 3) := by rw [HR.out, hKf, if_pos hu]
          have Fz := Lib.hid (fun (V : World) (hb : Below rb w V) => show ∃ v, Ending.returned (.tuple #[.agg ndZ, .int .i64 3]) = Ending.returned (.tuple #[v, .int .i64 (R.2 : Int)]) ∧ NdAt V V.heap.size v R.1 ∧ Below rb w V from ⟨_, by rw [hR]; rfl, by rw [hR]; exact NdAt.zero _ _, hb⟩)
          have hE3 : (endOf (.ok t) : Int) = 3 := by show (((if t = [] then 0 else 3 : Nat)) : Int) = 3; rw [if_neg hu]; rfl
          rw [hE3] at NE
          clear hR hKf hu hE3
          go_upto_region 18 with (go_at_call 29; (with_reducible refine NE.out.mono ?_); rintro e w6 ⟨rfl, b6⟩; have B6 := Lib.hid b6; clear b6)
          obtain ⟨rbk, hbl⟩ := Rb.out w6 B6.out
          obtain ⟨s1, s2, s3, s4, s5, q1, q2, q3, q4, q5, ⟨f0, f1, f2, f3, f4⟩, ⟨u0, u1, u2, u3, u4⟩, B5, b5, -⟩ := st5 rbk (Nat.le_refl rb) hbl (.int .i64 0) (.slice none 0 0) (.slice none 0 0) (.slice none 0 0) (.slice none 0 0)
          have t0 := B5.cell 0
          have t1 := B5.cell 1
          have t2 := B5.cell 2
          have t3 := B5.cell 3
          have t4 := B5.cell 4
          have Fin := Lib.hid (Fz.out s5 b5)
          clear rbk hbl B5 b5
          go_wp2_with fail
          refine bodyPost_ret (v := .tuple #[.agg ndZ, .int .i64 3]) ?_ rfl Fin.out
          simp [results, Try.results50]
          go_simp
        · have hE0 : (endOf (.ok t) : Int) = 0 := by show (((if t = [] then 0 else 3 : Nat)) : Int) = 0; rw [if_pos (by simpa using hu)]; rfl
          rw [hE0] at NE
          rw [if_neg hu] at hKf
          have NDW := Lib.hid (fun (V : World) (hV : Below wr.heap.size wr V) => show NdAt V V.heap.size (.agg #[.int .i64 (hd : Int), .slice D1 k1 d1, .slice D2 k2 d2, .slice D3 k3 d3, .slice D4 k4 d4]) n ∧ Blk V xb 60 #[.int .i64 (hd : Int), .slice D1 k1 d1, .slice D2 k2 d2, .slice D3 k3 d3, .slice D4 k4 d4] from by
            have hx := HX.out.below hV
            refine ⟨⟨D1, d1, D2, d2, D3, d3, D4, d4, by rw [HL.out, E1.out, E2.out, E3.out, E4.out], ?_, ?_, ?_, ?_⟩, hx.blk⟩
            · rw [HL.out]; dsimp only; have o := hx.o1; rw [← E1.out] at o ⊢; exact ⟨own_len o, own_none o, own_slW' o⟩
            · rw [HL.out]; dsimp only; have o := hx.o2; rw [← E2.out] at o ⊢; exact ⟨own_len o, own_none o, own_slW' o⟩
            · rw [HL.out]; dsimp only; have o := hx.o3; rw [← E3.out] at o ⊢; exact ⟨own_len o, own_none o, own_slW' o⟩
            · rw [HL.out]; dsimp only; have o := hx.o4; rw [← E4.out] at o ⊢; exact ⟨own_len o, own_none o, own_slW' o⟩)
          have xr := HD.out
          clear hE0
          by_cases hok : Nd.Ok n
          · have hR : R = (n, 0) := by rw [HR.out, hKf, if_pos hok]
            have NM0 := Lib.hid (fun (V : World) (hV : Below wr.heap.size wr V) => rmay_any (NDW.out V hV).1 true ⟨fun _ => hok, fun _ => rfl⟩)
            have Fz := Lib.hid (fun (V V' : World) (hV : Below wr.heap.size wr V) (hV' : ∀ g, g ≠ rb → V'.heap[g]? = V.heap[g]?) (hsz : V'.heap.size = V.heap.size) (hb : Below rb w V') => show ∃ v, Ending.returned (.tuple #[.agg #[.int .i64 (hd : Int), .slice D1 k1 d1, .slice D2 k2 d2, .slice D3 k3 d3, .slice D4 k4 d4], .int .i64 0]) = Ending.returned (.tuple #[v, .int .i64 (R.2 : Int)]) ∧ NdAt V' V'.heap.size v R.1 ∧ Below rb w V' from by
              have hx := HX.out.below hV
              have hne : ∀ g, xb + 1 ≤ g → g ≠ rb := fun g hg => by have := xr.h1; have := xr.h2; omega
              refine ⟨_, by rw [hR]; rfl, ?_, hb⟩
              rw [hR]
              refine ⟨D1, d1, D2, d2, D3, d3, D4, d4, by rw [HL.out, E1.out, E2.out, E3.out, E4.out], ?_, ?_, ?_, ?_⟩
              · rw [HL.out]; dsimp only; have o := own_keep hx.o1 (fun g hg _ => hV' g (hne g (hx.o1.lt g hg).1)); rw [← E1.out] at o ⊢; exact ⟨own_len o, own_none o, own_slW' o⟩
              · rw [HL.out]; dsimp only; have o := own_keep hx.o2 (fun g hg _ => hV' g (hne g (hx.o2.lt g hg).1)); rw [← E2.out] at o ⊢; exact ⟨own_len o, own_none o, own_slW' o⟩
              · rw [HL.out]; dsimp only; have o := own_keep hx.o3 (fun g hg _ => hV' g (hne g (hx.o3.lt g hg).1)); rw [← E3.out] at o ⊢; exact ⟨own_len o, own_none o, own_slW' o⟩
              · rw [HL.out]; dsimp only; have o := own_keep hx.o4 (fun g hg _ => hV' g (hne g (hx.o4.lt g hg).1)); rw [← E4.out] at o ⊢; exact ⟨own_len o, own_none o, own_slW' o⟩)
            clear hR hKf hu hok xr
            go_upto_region 22 with (first | (go_at_call 29; (with_reducible refine NE.out.mono ?_); rintro e w6 ⟨rfl, b6⟩; have NM := Lib.hid (NM0.out w6 b6); have bx6 := (NDW.out w6 b6).2; have j0 := bx6.cell 0; have j1 := bx6.cell 1; have j2 := bx6.cell 2; have j3 := bx6.cell 3; have j4 := bx6.cell 4; have B6 := Lib.hid b6; clear b6 bx6) | (go_at_call 46; (with_reducible refine NM.out.mono ?_); rintro e w7 ⟨rfl, b7⟩; have B7 := Lib.hid (B6.out.trans (b7.mono B6.out.size)); clear b7))
            obtain ⟨rbk, hbl⟩ := Rb.out w7 B7.out
            have bx7 := (NDW.out w7 B7.out).2
            have l0 := bx7.cell 0
            have l1' := bx7.cell 1
            have l2' := bx7.cell 2
            have l3 := bx7.cell 3
            have l4 := bx7.cell 4
            obtain ⟨s1, s2, s3, s4, s5, q1, q2, q3, q4, q5, ⟨f0, f1, f2, f3, f4⟩, ⟨u0, u1, u2, u3, u4⟩, B5, b5, far5⟩ := st5 rbk (Nat.le_refl rb) hbl (.int .i64 (hd : Int)) (.slice D1 k1 d1) (.slice D2 k2 d2) (.slice D3 k3 d3) (.slice D4 k4 d4)
            have t0 := B5.cell 0
            have t1 := B5.cell 1
            have t2 := B5.cell 2
            have t3 := B5.cell 3
            have t4 := B5.cell 4
            have Fin := Lib.hid (Fz.out w7 s5 B7.out far5 (by rw [← q5, ← q4, ← q3, ← q2, ← q1]; simp [World.setCell]) b5)
            clear rbk hbl B5 b5 far5 bx7
            go_wp2_with fail
            refine bodyPost_ret (v := .tuple #[.agg #[.int .i64 (hd : Int), .slice D1 k1 d1, .slice D2 k2 d2, .slice D3 k3 d3, .slice D4 k4 d4], .int .i64 0]) ?_ rfl Fin.out
            simp [results, Try.results50]
            go_simp
          · have hR : R = (Nd.zero, 4) := by rw [HR.out, hKf, if_neg hok]
            have NM0 := Lib.hid (fun (V : World) (hV : Below wr.heap.size wr V) => rmay_any (NDW.out V hV).1 false ⟨(fun h => by cases h), fun h => absurd h hok⟩)
            have Fz := Lib.hid (fun (V : World) (hb : Below rb w V) => show ∃ v, Ending.returned (.tuple #[.agg ndZ, .int .i64 4]) = Ending.returned (.tuple #[v, .int .i64 (R.2 : Int)]) ∧ NdAt V V.heap.size v R.1 ∧ Below rb w V from ⟨_, by rw [hR]; rfl, by rw [hR]; exact NdAt.zero _ _, hb⟩)
            clear hR hKf hu hok xr
            go_upto_region 21 with (first | (go_at_call 29; (with_reducible refine NE.out.mono ?_); rintro e w6 ⟨rfl, b6⟩; have NM := Lib.hid (NM0.out w6 b6); have bx6 := (NDW.out w6 b6).2; have j0 := bx6.cell 0; have j1 := bx6.cell 1; have j2 := bx6.cell 2; have j3 := bx6.cell 3; have j4 := bx6.cell 4; have B6 := Lib.hid b6; clear b6 bx6) | (go_at_call 46; (with_reducible refine NM.out.mono ?_); rintro e w7 ⟨rfl, b7⟩; have B7 := Lib.hid (B6.out.trans (b7.mono B6.out.size)); clear b7))
            obtain ⟨rbk, hbl⟩ := Rb.out w7 B7.out
            obtain ⟨s1, s2, s3, s4, s5, q1, q2, q3, q4, q5, ⟨f0, f1, f2, f3, f4⟩, ⟨u0, u1, u2, u3, u4⟩, B5, b5, -⟩ := st5 rbk (Nat.le_refl rb) hbl (.int .i64 0) (.slice none 0 0) (.slice none 0 0) (.slice none 0 0) (.slice none 0 0)
            have t0 := B5.cell 0
            have t1 := B5.cell 1
            have t2 := B5.cell 2
            have t3 := B5.cell 3
            have t4 := B5.cell 4
            have Fin := Lib.hid (Fz.out s5 b5)
            clear rbk hbl B5 b5
            go_wp2_with fail
            refine bodyPost_ret (v := .tuple #[.agg ndZ, .int .i64 4]) ?_ rfl Fin.out
            simp [results, Try.results50]
            go_simp
end Go.Proofs.Ytdfelkkibolheaa
