/- The program's readKey. -/
import Derived.Test.YtaainefdjbmekaaSbdc
import Derived.Test.YtaainefdjbmekaaSbdd
import Derived.Test.YtaainefdjbmekaaSbde
namespace Go.Proofs.Ytaainefdjbmekaa
open Go.RowKit Vint
theorem NX.nd {w : World} {xb H : Nat} {T TK : TypeId} {hh : Int} {ks gs : List Int} {ps cs : List Nd.T3} {v1 v2 v3 v4 : Value} (h : NX w xb H T TK hh ks ps gs cs v1 v2 v3 v4 v1 v2 v3 v4) : NdAt w w.heap.size (.agg #[.int .i64 hh, v1, v2, v3, v4]) ⟨hh, ks, ps, gs, cs⟩ := by
  obtain ⟨A1, c1, rfl⟩ := own_slice h.o1
  obtain ⟨A2, c2, rfl⟩ := own_slice h.o2
  obtain ⟨A3, c3, rfl⟩ := own_slice h.o3
  obtain ⟨A4, c4, rfl⟩ := own_slice h.o4
  exact ⟨A1, c1, A2, c2, A3, c3, A4, c4, rfl, ⟨own_len h.o1, own_none h.o1, own_slW' h.o1⟩, ⟨own_len h.o2, own_none h.o2, own_slW' h.o2⟩, ⟨own_len h.o3, own_none h.o3, own_slW' h.o3⟩, ⟨own_len h.o4, own_none h.o4, own_slW' h.o4⟩⟩
theorem bp_panic {P : Program} {fn : Func} {R : Ending → World → Prop} {a : Act} {w : World} {chain : List PanicEntry} (hd : a.defers = []) (h : R (.panicked chain) w) : bodyPost P fn R (.panic chain) a w := ⟨hd, h⟩
theorem sl_one' {w : World} {a : Value} {t : TypeId} : Sl (w.alloc (.cells #[a] t)) (w.heap.size + 1) (some ⟨w.heap.size, 0, none⟩) [a] := .inr ⟨w.heap.size, 0, rfl, by omega, fun i hi => by
  have : i = 0 := by have : i < 1 := hi; omega
  subst this
  exact (Blk.new w t _).cell _⟩
theorem sl_thr {w : World} {a b c : Value} {t : TypeId} : Sl (w.alloc (.cells #[a, b, c] t)) (w.heap.size + 1) (some ⟨w.heap.size, 0, none⟩) [a, b, c] := .inr ⟨w.heap.size, 0, rfl, by omega, fun i hi => by
  have : i < 3 := hi
  have : i = 0 ∨ i = 1 ∨ i = 2 := by omega
  rcases this with rfl | rfl | rfl <;> exact (Blk.new w t _).cell _⟩
/-- Loads under names. -/
def ldP1 : Op := Op.load 49 (.tmp 7)
def ldP4 : Op := Op.load 60 (.tmp 23)
def ldP2 : Op := Op.load 52 (.tmp 39)
def ldP3 : Op := Op.load 49 (.tmp 55)
/-- What readKey does. -/
def RkQ (w0 : World) (B R L xb H hd : Nat) (n : Nd.N) (l : List Nat) (r : Ending) (w' : World) : Prop :=
  (∃ xs t v1 v2 v3 v4, Nd.rds (Nd.width hd) l = .ok (xs, t) ∧ r = .returned (.tuple #[]) ∧ PS w0 w' B R L xb H (hd : Int) (Nd.more n xs).ks (Nd.more n xs).ps (Nd.more n xs).gs (Nd.more n xs).cs v1 v2 v3 v4 v1 v2 v3 v4 t 0) ∨
  (∃ (k : Nat) (l' : List Nat), Nd.rds (Nd.width hd) l = .error k ∧ k ≠ 0 ∧ r = .panicked [{ v := .iface 34 (.int .i64 (k : Int)), recovered := false }] ∧ Rd w' B R L l' (k : Int) ∧ Chg (GX xb R L H) w0 w')
theorem rds_e {m e : Nat} {s m1 : List Nat} (h : (num s).2.2 = 0) (hm : m1 = s.drop (num s).2.1) (hr : Nd.rds m m1 = .error e) : Nd.rds (m + 1) s = .error e := by
  rw [Nd.rds, if_pos h, ← hm, hr]
theorem rds_s {m z : Nat} {s : List Nat} (hz : z = (num s).2.2) (h : z ≠ 0) : Nd.rds (m + 1) s = .error z := by
  rw [Nd.rds, if_neg (by rw [← hz]; exact h), hz]
theorem rds_o {m a : Nat} {s m1 xs t : List Nat} (h : (num s).2.2 = 0) (ha : a = (num s).1) (hm : m1 = s.drop (num s).2.1) (hr : Nd.rds m m1 = .ok (xs, t)) : Nd.rds (m + 1) s = .ok (a :: xs, t) := by
  rw [Nd.rds, if_pos h, ← hm, hr, ha]
set_option maxRecDepth 8000 in
set_option maxHeartbeats 32000000 in
theorem rk_any {w0 w : World} {B R L xb H hd : Nat} {ks gs : List Int} {ps cs : List Nd.T3} {v1 v2 v3 v4 : Value} {l : List Nat} {e : Int} (n : Nd.N) (hn : n = ⟨(hd : Int), ks, ps, gs, cs⟩) (h : PS w0 w B R L xb H (hd : Int) ks ps gs cs v1 v2 v3 v4 v1 v2 v3 v4 l e) (lk : ks.length ≤ 8) (lp : ps.length ≤ 8) (lg : gs.length ≤ 8) (lc : cs.length ≤ 8) :
    Calls Try.prog 74 #[.pointer (some ⟨R, 0, none⟩), .pointer (some ⟨xb, 0, none⟩)] w (RkQ w0 B R L xb H hd n l) := by
  obtain ⟨D1, d1, e1⟩ := own_slice h.nx.o1
  obtain ⟨D2, d2, e2⟩ := own_slice h.nx.o2
  obtain ⟨D3, d3, e3⟩ := own_slice h.nx.o3
  obtain ⟨D4, d4, e4⟩ := own_slice h.nx.o4
  subst e1 e2 e3 e4
  obtain ⟨k1, hk1⟩ : ∃ k, k = ks.length := ⟨_, rfl⟩
  obtain ⟨k2, hk2⟩ : ∃ k, k = ps.length := ⟨_, rfl⟩
  obtain ⟨k3, hk3⟩ : ∃ k, k = gs.length := ⟨_, rfl⟩
  obtain ⟨k4, hk4⟩ : ∃ k, k = cs.length := ⟨_, rfl⟩
  rw [← hk1] at lk
  rw [← hk2] at lp
  rw [← hk3] at lg
  rw [← hk4] at lc
  rw [← hk1, ← hk2, ← hk3, ← hk4] at h
  have E1 := Lib.hid hk1
  have E2 := Lib.hid hk2
  have E3 := Lib.hid hk3
  have E4 := Lib.hid hk4
  have HN := Lib.hid hn
  have HP := Lib.hid h
  have PA := Lib.hid h.drew
  have yA : w.drew.cell? ⟨xb, 1, none⟩ = some (.slice D1 k1 d1) := PA.out.nx.blk.cell 1
  clear h hk1 hk2 hk3 hk4 hn
  obtain ⟨a1, ha1⟩ : ∃ a, a = (num l).1 := ⟨_, rfl⟩
  obtain ⟨m1, hm1⟩ : ∃ a, a = l.drop (num l).2.1 := ⟨_, rfl⟩
  obtain ⟨z1, hz1⟩ : ∃ a, a = (num l).2.2 := ⟨_, rfl⟩
  have W1 : ∃ q, Nd.width hd = q + 1 := by unfold Nd.width; split <;> exact ⟨_, rfl⟩
  by_cases b1 : z1 = 0
  case neg =>
    have NB := Lib.hid (pnum_bad PA.out.rd hz1 b1)
    have Er := Lib.hid (show Nd.rds (Nd.width hd) l = .error z1 from by obtain ⟨q, hq⟩ := W1; rw [hq]; exact rds_s hz1 b1)
    have B1 := Lib.hid b1
    clear b1 hz1 ha1 hm1 W1
    go_enter Try.func74, Try.ntmps74
    go_wp2_with fail
    go_region_with (first
      | (go_at_call 73; ((with_reducible refine NB.out.mono ?_); rintro r w5 ⟨rfl, r5, c5⟩; refine panic_at (P := Try.prog) w5 (bp_panic rfl (.inr ⟨z1, l, Er.out, B1.out, rfl, r5, PA.out.chg.then_ (c5.mono fun _ h => .inr (.inl h))⟩)) ?_)))
    all_goals trivial
  have c1 : (num l).2.2 = 0 := by rw [← hz1]; exact b1
  have N1 := Lib.hid (pnum_ok PA.out.rd c1 ha1 hm1)
  obtain ⟨a2, ha2⟩ : ∃ a, a = (num m1).1 := ⟨_, rfl⟩
  obtain ⟨m2, hm2⟩ : ∃ a, a = m1.drop (num m1).2.1 := ⟨_, rfl⟩
  obtain ⟨z2, hz2⟩ : ∃ a, a = (num m1).2.2 := ⟨_, rfl⟩
  obtain ⟨a3, ha3⟩ : ∃ a, a = (num m2).1 := ⟨_, rfl⟩
  obtain ⟨m3, hm3⟩ : ∃ a, a = m2.drop (num m2).2.1 := ⟨_, rfl⟩
  obtain ⟨z3, hz3⟩ : ∃ a, a = (num m2).2.2 := ⟨_, rfl⟩
  obtain ⟨a4, ha4⟩ : ∃ a, a = (num m3).1 := ⟨_, rfl⟩
  obtain ⟨m4, hm4⟩ : ∃ a, a = m3.drop (num m3).2.1 := ⟨_, rfl⟩
  obtain ⟨z4, hz4⟩ : ∃ a, a = (num m3).2.2 := ⟨_, rfl⟩
  obtain ⟨a5, ha5⟩ : ∃ a, a = (num m4).1 := ⟨_, rfl⟩
  obtain ⟨m5, hm5⟩ : ∃ a, a = m4.drop (num m4).2.1 := ⟨_, rfl⟩
  obtain ⟨z5, hz5⟩ : ∃ a, a = (num m4).2.2 := ⟨_, rfl⟩
  have O1 := Lib.hid (fun (_ : True) {m : Nat} {xs t : List Nat} (hr : Nd.rds m m1 = .ok (xs, t)) => rds_o c1 ha1 hm1 hr)
  have X1 := Lib.hid (fun (_ : True) {m e : Nat} (hr : Nd.rds m m1 = .error e) => rds_e c1 hm1 hr)
  have O2 := Lib.hid (fun (b : z2 = 0) {m : Nat} {xs t : List Nat} (hr : Nd.rds m m2 = .ok (xs, t)) => rds_o (hz2.symm.trans b) ha2 hm2 hr)
  have X2 := Lib.hid (fun (b : z2 = 0) {m e : Nat} (hr : Nd.rds m m2 = .error e) => rds_e (hz2.symm.trans b) hm2 hr)
  have S2 := Lib.hid (fun (b : z2 ≠ 0) (m : Nat) => rds_s (m := m) hz2 b)
  have G2 := Lib.hid (fun (b : z2 = 0) {V : World} {e : Int} (h : Rd V B R L m1 e) => pnum_ok h (hz2.symm.trans b) ha2 hm2)
  have F2 := Lib.hid (fun (b : z2 ≠ 0) {V : World} {e : Int} (h : Rd V B R L m1 e) => pnum_bad h hz2 b)
  have O3 := Lib.hid (fun (b : z3 = 0) {m : Nat} {xs t : List Nat} (hr : Nd.rds m m3 = .ok (xs, t)) => rds_o (hz3.symm.trans b) ha3 hm3 hr)
  have X3 := Lib.hid (fun (b : z3 = 0) {m e : Nat} (hr : Nd.rds m m3 = .error e) => rds_e (hz3.symm.trans b) hm3 hr)
  have S3 := Lib.hid (fun (b : z3 ≠ 0) (m : Nat) => rds_s (m := m) hz3 b)
  have G3 := Lib.hid (fun (b : z3 = 0) {V : World} {e : Int} (h : Rd V B R L m2 e) => pnum_ok h (hz3.symm.trans b) ha3 hm3)
  have F3 := Lib.hid (fun (b : z3 ≠ 0) {V : World} {e : Int} (h : Rd V B R L m2 e) => pnum_bad h hz3 b)
  have O4 := Lib.hid (fun (b : z4 = 0) {m : Nat} {xs t : List Nat} (hr : Nd.rds m m4 = .ok (xs, t)) => rds_o (hz4.symm.trans b) ha4 hm4 hr)
  have X4 := Lib.hid (fun (b : z4 = 0) {m e : Nat} (hr : Nd.rds m m4 = .error e) => rds_e (hz4.symm.trans b) hm4 hr)
  have S4 := Lib.hid (fun (b : z4 ≠ 0) (m : Nat) => rds_s (m := m) hz4 b)
  have G4 := Lib.hid (fun (b : z4 = 0) {V : World} {e : Int} (h : Rd V B R L m3 e) => pnum_ok h (hz4.symm.trans b) ha4 hm4)
  have F4 := Lib.hid (fun (b : z4 ≠ 0) {V : World} {e : Int} (h : Rd V B R L m3 e) => pnum_bad h hz4 b)
  have O5 := Lib.hid (fun (b : z5 = 0) {m : Nat} {xs t : List Nat} (hr : Nd.rds m m5 = .ok (xs, t)) => rds_o (hz5.symm.trans b) ha5 hm5 hr)
  have X5 := Lib.hid (fun (b : z5 = 0) {m e : Nat} (hr : Nd.rds m m5 = .error e) => rds_e (hz5.symm.trans b) hm5 hr)
  have S5 := Lib.hid (fun (b : z5 ≠ 0) (m : Nat) => rds_s (m := m) hz5 b)
  have G5 := Lib.hid (fun (b : z5 = 0) {V : World} {e : Int} (h : Rd V B R L m4 e) => pnum_ok h (hz5.symm.trans b) ha5 hm5)
  have F5 := Lib.hid (fun (b : z5 ≠ 0) {V : World} {e : Int} (h : Rd V B R L m4 e) => pnum_bad h hz5 b)
  clear c1 hz1 ha1 hm1 b1 W1 ha2 hm2 hz2 ha3 hm3 hz3 ha4 hm4 hz4 ha5 hm5 hz5
  go_enter Try.func74, Try.ntmps74
  go_upto_region 0 with fail
  have hld1 : ldP1 = Op.load 49 (.tmp 7) := rfl
  rw [← hld1]
  go_cut [] from 4 to 14 (fun wx => ∃ u, PS w0 wx B R L xb H (hd : Int) (ks ++ [(a1 : Int)]) ps gs cs u (.slice D2 k2 d2) (.slice D3 k3 d3) (.slice D4 k4 d4) u (.slice D2 k2 d2) (.slice D3 k3 d3) (.slice D4 k4 d4) m1 0)
  case first =>
    obtain ⟨i1, hi1, hz1, hs1, hb1⟩ := nint_parts
    go_region_held3 (fun _ => True) (trivial) (first
      | (go_at_call 73; ((with_reducible refine N1.out.mono ?_); rintro r w6 ⟨rfl, r6, c6⟩; have P6 := Lib.hid (PA.out.num r6 c6); have yB : w6.cell? ⟨xb, 1, none⟩ = some (.slice D1 k1 d1) := P6.out.nx.blk.cell 1; have P7 := Lib.hid (P6.out.alloc (.cells #[.int .i64 (a1 : Int)] 3)); have yC : (w6.alloc (.cells #[.int .i64 (a1 : Int)] 3)).cell? ⟨xb, 1, none⟩ = some (.slice D1 k1 d1) := P7.out.nx.blk.cell 1; clear r6 c6))
      | (refine step_append3 (base := H) _ rfl (.tmp 8) (.tmp 11) _ rfl Try.underlying49 hi1 hz1 hs1 hb1 rfl (by decide) rfl P7.out.nx.o1 (m := 1) (news := [.int .i64 (a1 : Int)]) rfl rfl (by simp) (Nat.le_refl _) sl_one' (by simp [Value.oneCell']) (by rw [← E1.out]; unfold maxLen; omega) (by rw [← E1.out]; omega) P7.out.nx.hz ?_; intro v8 w8 g1 g2 g3; rw [← E1.out] at g1; have ap := P7.out.app1 (a1 : Int) E1.out g1 g2 g3; obtain ⟨D8, d8, rfl⟩ := own_slice g1; have P8 := Lib.hid ap; have fz : w8.frozen? ⟨xb, 1, none⟩ = false := ap.nx.blk.frozen 1; have yD : w8.cell? ⟨xb, 1, none⟩ = some (.slice D1 k1 d1) := ap.nx.blk.cell 1; clear ap g1 g2 g3))
    all_goals (go_wp2_with fail)
    all_goals (go_meet)
    all_goals exact ⟨_, P8.out.set1 _⟩
  case rest =>
  obtain ⟨u, hP⟩ := hcut
  obtain ⟨kk, hkk⟩ : ∃ k, k = (ks ++ [(a1 : Int)]).length := ⟨_, rfl⟩
  have oo := hP.nx.o1
  rw [← hkk] at oo
  obtain ⟨Dk, dk, e9⟩ := own_slice oo
  subst e9
  clear oo hkk
  have NL := Lib.hid (fun (r : Bool) (hr : decide ((hd : Int) = 0) = r) => isleaf_any (B := wc.heap.size) hP.nx.nd r hr)
  have HQ := Lib.hid hP
  have j0 := hP.nx.blk.cell 0
  have j1 := hP.nx.blk.cell 1
  have j2 := hP.nx.blk.cell 2
  have j3 := hP.nx.blk.cell 3
  have j4 := hP.nx.blk.cell 4
  clear hP hld1 yA N1 HP PA
  by_cases hz : hd = 0
  case neg =>
    have NL := Lib.hid (NL.out false (by rw [decide_eq_false_iff_not]; omega))
    have WD := Lib.hid (show Nd.width hd = 4 from by unfold Nd.width; rw [if_neg hz])
    have Ed := Lib.hid (show ∀ xs : List Nat, Nd.more n xs = { n with ks := n.ks ++ [(xs.getD 0 0 : Int)], cs := n.cs ++ [((xs.getD 1 0 : Int), (xs.getD 2 0 : Int), (xs.getD 3 0 : Int))] } from fun xs => by unfold Nd.more; rw [if_neg (by rw [HN.out]; show ¬ (hd : Int) = 0; omega)])
    clear hz
    go_upto_region 2 with (go_at_call 60; (with_reducible refine NL.out.mono ?_); rintro r w6 ⟨rfl, h6⟩; have P6 := Lib.hid (HQ.out.below h6); clear h6)
    have PA := Lib.hid P6.out.drew
    have yA : w6.drew.cell? ⟨xb, 4, none⟩ = some (.slice D4 k4 d4) := PA.out.nx.blk.cell 4
    clear j0 j1 j2 j3 j4
    by_cases b2 : z2 = 0
    case neg =>
      have Er := Lib.hid (show Nd.rds (Nd.width hd) l = .error z2 from by rw [WD.out]; exact X1.out trivial (S2.out b2 _))
      have B2 := Lib.hid b2
      clear b2
      go_region_with (first
        | (go_at_call 73; ((with_reducible refine (F2.out B2.out PA.out.rd).mono ?_); rintro r w5 ⟨rfl, r5, c5⟩; refine panic_at (P := Try.prog) w5 (bp_panic rfl (.inr ⟨z2, m1, Er.out, B2.out, rfl, r5, PA.out.chg.then_ (c5.mono fun _ h => .inr (.inl h))⟩)) ?_)))
      all_goals trivial
    have B2 := Lib.hid b2
    clear b2
    by_cases b3 : z3 = 0
    case neg =>
      have Er := Lib.hid (show Nd.rds (Nd.width hd) l = .error z3 from by rw [WD.out]; exact X1.out trivial (X2.out B2.out (S3.out b3 _)))
      have B3 := Lib.hid b3
      clear b3
      go_region_with (first
        | (go_at_call 73; ((with_reducible refine (G2.out B2.out PA.out.rd).mono ?_); rintro r w7 ⟨rfl, r6, c6⟩; have P7 := Lib.hid (PA.out.num r6 c6); have yw7 : w7.cell? ⟨xb, 4, none⟩ = some (.slice D4 k4 d4) := P7.out.nx.blk.cell 4; clear r6 c6))
        | (go_at_call 73; ((with_reducible refine (F3.out B3.out P7.out.rd).mono ?_); rintro r w5 ⟨rfl, r5, c5⟩; refine panic_at (P := Try.prog) w5 (bp_panic rfl (.inr ⟨z3, m2, Er.out, B3.out, rfl, r5, P7.out.chg.then_ (c5.mono fun _ h => .inr (.inl h))⟩)) ?_)))
      all_goals trivial
    have B3 := Lib.hid b3
    clear b3
    by_cases b4 : z4 = 0
    case neg =>
      have Er := Lib.hid (show Nd.rds (Nd.width hd) l = .error z4 from by rw [WD.out]; exact X1.out trivial (X2.out B2.out (X3.out B3.out (S4.out b4 _))))
      have B4 := Lib.hid b4
      clear b4
      go_region_with (first
        | (go_at_call 73; ((with_reducible refine (G2.out B2.out PA.out.rd).mono ?_); rintro r w7 ⟨rfl, r6, c6⟩; have P7 := Lib.hid (PA.out.num r6 c6); have yw7 : w7.cell? ⟨xb, 4, none⟩ = some (.slice D4 k4 d4) := P7.out.nx.blk.cell 4; clear r6 c6))
        | (go_at_call 73; ((with_reducible refine (G3.out B3.out P7.out.rd).mono ?_); rintro r w8 ⟨rfl, r6, c6⟩; have P8 := Lib.hid (P7.out.num r6 c6); have yw8 : w8.cell? ⟨xb, 4, none⟩ = some (.slice D4 k4 d4) := P8.out.nx.blk.cell 4; clear r6 c6))
        | (go_at_call 73; ((with_reducible refine (F4.out B4.out P8.out.rd).mono ?_); rintro r w5 ⟨rfl, r5, c5⟩; refine panic_at (P := Try.prog) w5 (bp_panic rfl (.inr ⟨z4, m3, Er.out, B4.out, rfl, r5, P8.out.chg.then_ (c5.mono fun _ h => .inr (.inl h))⟩)) ?_)))
      all_goals trivial
    have B4 := Lib.hid b4
    clear b4
    obtain ⟨i2, hi2, hz2, hs2, hb2⟩ := nkid_parts
    have hld : ldP4 = Op.load 60 (.tmp 23) := rfl
    have Fin := Lib.hid (fun (V : World) (q1 q2 q3 q4 : Value) (hP : PS w0 V B R L xb H (hd : Int) (ks ++ [(a1 : Int)]) ps gs (cs ++ [((a2 : Int), (a3 : Int), (a4 : Int))]) q1 q2 q3 q4 q1 q2 q3 q4 m4 0) => show RkQ w0 B R L xb H hd n l (.returned (.tuple #[])) V from by
      have e2 : Nd.more n [a1, a2, a3, a4] = ⟨(hd : Int), (ks ++ [(a1 : Int)]), ps, gs, cs ++ [((a2 : Int), (a3 : Int), (a4 : Int))]⟩ := by
        rw [Ed.out, HN.out]; rfl
      refine .inl ⟨[a1, a2, a3, a4], m4, q1, q2, q3, q4, ?_, rfl, ?_⟩
      · rw [WD.out]; exact O1.out trivial (O2.out B2.out (O3.out B3.out (O4.out B4.out rfl)))
      · rw [e2]; exact hP)
    rw [← hld]
    go_region_held3 (fun _ => True) (trivial) (first
      | (go_at_call 73; ((with_reducible refine (G2.out B2.out PA.out.rd).mono ?_); rintro r w7 ⟨rfl, r6, c6⟩; have P7 := Lib.hid (PA.out.num r6 c6); have yw7 : w7.cell? ⟨xb, 4, none⟩ = some (.slice D4 k4 d4) := P7.out.nx.blk.cell 4; clear r6 c6))
      | (go_at_call 73; ((with_reducible refine (G3.out B3.out P7.out.rd).mono ?_); rintro r w8 ⟨rfl, r6, c6⟩; have P8 := Lib.hid (P7.out.num r6 c6); have yw8 : w8.cell? ⟨xb, 4, none⟩ = some (.slice D4 k4 d4) := P8.out.nx.blk.cell 4; clear r6 c6))
      | (go_at_call 73; ((with_reducible refine (G4.out B4.out P8.out.rd).mono ?_); rintro r w9 ⟨rfl, r6, c6⟩; have P9 := Lib.hid (P8.out.num r6 c6); have yw9 : w9.cell? ⟨xb, 4, none⟩ = some (.slice D4 k4 d4) := P9.out.nx.blk.cell 4; clear r6 c6; have PZ := Lib.hid (P9.out.alloc (.cells #[.int .i64 (a2 : Int), .int .i64 (a3 : Int), .int .i64 (a4 : Int)] 57)); have yZ : (w9.alloc (.cells #[.int .i64 (a2 : Int), .int .i64 (a3 : Int), .int .i64 (a4 : Int)] 57)).cell? ⟨xb, 4, none⟩ = some (.slice D4 k4 d4) := PZ.out.nx.blk.cell 4))
      | (refine step_append3 (base := H) _ rfl (.tmp 24) (.tmp 32) _ rfl Try.underlying60 hi2 hz2 hs2 hb2 rfl (by decide) rfl PZ.out.nx.o4 (m := 1) (news := [.int .i64 (a2 : Int), .int .i64 (a3 : Int), .int .i64 (a4 : Int)]) rfl rfl (by simp) (Nat.le_refl _) sl_thr (by simp [Value.oneCell']) (by rw [← E4.out]; unfold maxLen; omega) (by rw [← E4.out]; omega) PZ.out.nx.hz ?_; intro v11 w11 g1 g2 g3; rw [← E4.out] at g1; have ap := PZ.out.app4 ((a2 : Int), (a3 : Int), (a4 : Int)) E4.out g1 g2 g3; obtain ⟨D8, d8, rfl⟩ := own_slice g1; have PF := Lib.hid ap; have fz : w11.frozen? ⟨xb, 4, none⟩ = false := ap.nx.blk.frozen 4; have yW : w11.cell? ⟨xb, 4, none⟩ = some (.slice D4 k4 d4) := ap.nx.blk.cell 4; clear ap g1 g2 g3))
    all_goals
      have FF := Lib.hid (Fin.out _ _ _ _ _ (PF.out.set4 _))
      go_wp2_with fail
      refine bodyPost_end (results_none rfl _ _ _) rfl ?_
      exact FF.out
  have NL := Lib.hid (NL.out true (by rw [decide_eq_true_eq]; omega))
  have WD := Lib.hid (show Nd.width hd = 5 from by rw [hz]; rfl)
  have Ed := Lib.hid (show ∀ xs : List Nat, Nd.more n xs = { n with ks := n.ks ++ [(xs.getD 0 0 : Int)], ps := n.ps ++ [((xs.getD 1 0 : Int), (xs.getD 2 0 : Int), (xs.getD 3 0 : Int))], gs := n.gs ++ [(xs.getD 4 0 : Int)] } from fun xs => by unfold Nd.more; rw [if_pos (by rw [HN.out]; show (hd : Int) = 0; omega)])
  clear hz
  go_upto_region 3 with (go_at_call 60; (with_reducible refine NL.out.mono ?_); rintro r w6 ⟨rfl, h6⟩; have P6 := Lib.hid (HQ.out.below h6); clear h6)
  have PA := Lib.hid P6.out.drew
  have yA : w6.drew.cell? ⟨xb, 2, none⟩ = some (.slice D2 k2 d2) := PA.out.nx.blk.cell 2
  clear j0 j1 j2 j3 j4
  by_cases b2 : z2 = 0
  case neg =>
    have Er := Lib.hid (show Nd.rds (Nd.width hd) l = .error z2 from by rw [WD.out]; exact X1.out trivial (S2.out b2 _))
    have B2 := Lib.hid b2
    clear b2
    go_region_with (first
      | (go_at_call 73; ((with_reducible refine (F2.out B2.out PA.out.rd).mono ?_); rintro r w5 ⟨rfl, r5, c5⟩; refine panic_at (P := Try.prog) w5 (bp_panic rfl (.inr ⟨z2, m1, Er.out, B2.out, rfl, r5, PA.out.chg.then_ (c5.mono fun _ h => .inr (.inl h))⟩)) ?_)))
    all_goals trivial
  have B2 := Lib.hid b2
  clear b2
  by_cases b3 : z3 = 0
  case neg =>
    have Er := Lib.hid (show Nd.rds (Nd.width hd) l = .error z3 from by rw [WD.out]; exact X1.out trivial (X2.out B2.out (S3.out b3 _)))
    have B3 := Lib.hid b3
    clear b3
    go_region_with (first
      | (go_at_call 73; ((with_reducible refine (G2.out B2.out PA.out.rd).mono ?_); rintro r w7 ⟨rfl, r6, c6⟩; have P7 := Lib.hid (PA.out.num r6 c6); have yw7 : w7.cell? ⟨xb, 2, none⟩ = some (.slice D2 k2 d2) := P7.out.nx.blk.cell 2; clear r6 c6))
      | (go_at_call 73; ((with_reducible refine (F3.out B3.out P7.out.rd).mono ?_); rintro r w5 ⟨rfl, r5, c5⟩; refine panic_at (P := Try.prog) w5 (bp_panic rfl (.inr ⟨z3, m2, Er.out, B3.out, rfl, r5, P7.out.chg.then_ (c5.mono fun _ h => .inr (.inl h))⟩)) ?_)))
    all_goals trivial
  have B3 := Lib.hid b3
  clear b3
  by_cases b4 : z4 = 0
  case neg =>
    have Er := Lib.hid (show Nd.rds (Nd.width hd) l = .error z4 from by rw [WD.out]; exact X1.out trivial (X2.out B2.out (X3.out B3.out (S4.out b4 _))))
    have B4 := Lib.hid b4
    clear b4
    go_region_with (first
      | (go_at_call 73; ((with_reducible refine (G2.out B2.out PA.out.rd).mono ?_); rintro r w7 ⟨rfl, r6, c6⟩; have P7 := Lib.hid (PA.out.num r6 c6); have yw7 : w7.cell? ⟨xb, 2, none⟩ = some (.slice D2 k2 d2) := P7.out.nx.blk.cell 2; clear r6 c6))
      | (go_at_call 73; ((with_reducible refine (G3.out B3.out P7.out.rd).mono ?_); rintro r w8 ⟨rfl, r6, c6⟩; have P8 := Lib.hid (P7.out.num r6 c6); have yw8 : w8.cell? ⟨xb, 2, none⟩ = some (.slice D2 k2 d2) := P8.out.nx.blk.cell 2; clear r6 c6))
      | (go_at_call 73; ((with_reducible refine (F4.out B4.out P8.out.rd).mono ?_); rintro r w5 ⟨rfl, r5, c5⟩; refine panic_at (P := Try.prog) w5 (bp_panic rfl (.inr ⟨z4, m3, Er.out, B4.out, rfl, r5, P8.out.chg.then_ (c5.mono fun _ h => .inr (.inl h))⟩)) ?_)))
    all_goals trivial
  have B4 := Lib.hid b4
  clear b4
  obtain ⟨i2, hi2, hz2, hs2, hb2⟩ := nplace_parts
  have hld : ldP2 = Op.load 52 (.tmp 39) := rfl
  rw [← hld]
  go_cut [] from 36 to 51 (fun wx => ∃ u, PS w0 wx B R L xb H (hd : Int) (ks ++ [(a1 : Int)]) (ps ++ [((a2 : Int), (a3 : Int), (a4 : Int))]) gs cs (.slice Dk kk dk) u (.slice D3 k3 d3) (.slice D4 k4 d4) (.slice Dk kk dk) u (.slice D3 k3 d3) (.slice D4 k4 d4) m4 0)
  case first =>
    go_region_held3 (fun _ => True) (trivial) (first
      | (go_at_call 73; ((with_reducible refine (G2.out B2.out PA.out.rd).mono ?_); rintro r w7 ⟨rfl, r6, c6⟩; have P7 := Lib.hid (PA.out.num r6 c6); have yw7 : w7.cell? ⟨xb, 2, none⟩ = some (.slice D2 k2 d2) := P7.out.nx.blk.cell 2; clear r6 c6))
      | (go_at_call 73; ((with_reducible refine (G3.out B3.out P7.out.rd).mono ?_); rintro r w8 ⟨rfl, r6, c6⟩; have P8 := Lib.hid (P7.out.num r6 c6); have yw8 : w8.cell? ⟨xb, 2, none⟩ = some (.slice D2 k2 d2) := P8.out.nx.blk.cell 2; clear r6 c6))
      | (go_at_call 73; ((with_reducible refine (G4.out B4.out P8.out.rd).mono ?_); rintro r w9 ⟨rfl, r6, c6⟩; have P9 := Lib.hid (P8.out.num r6 c6); have yw9 : w9.cell? ⟨xb, 2, none⟩ = some (.slice D2 k2 d2) := P9.out.nx.blk.cell 2; clear r6 c6; have PZ := Lib.hid (P9.out.alloc (.cells #[.int .i64 (a2 : Int), .int .i64 (a3 : Int), .int .i64 (a4 : Int)] 51)); have yZ : (w9.alloc (.cells #[.int .i64 (a2 : Int), .int .i64 (a3 : Int), .int .i64 (a4 : Int)] 51)).cell? ⟨xb, 2, none⟩ = some (.slice D2 k2 d2) := PZ.out.nx.blk.cell 2))
      | (refine step_append3 (base := H) _ rfl (.tmp 40) (.tmp 48) _ rfl Try.underlying52 hi2 hz2 hs2 hb2 rfl (by decide) rfl PZ.out.nx.o2 (m := 1) (news := [.int .i64 (a2 : Int), .int .i64 (a3 : Int), .int .i64 (a4 : Int)]) rfl rfl (by simp) (Nat.le_refl _) sl_thr (by simp [Value.oneCell']) (by rw [← E2.out]; unfold maxLen; omega) (by rw [← E2.out]; omega) PZ.out.nx.hz ?_; intro v11 w11 g1 g2 g3; rw [← E2.out] at g1; have ap := PZ.out.app2 ((a2 : Int), (a3 : Int), (a4 : Int)) E2.out g1 g2 g3; obtain ⟨D8, d8, rfl⟩ := own_slice g1; have PF := Lib.hid ap; have fz : w11.frozen? ⟨xb, 2, none⟩ = false := ap.nx.blk.frozen 2; have yW : w11.cell? ⟨xb, 2, none⟩ = some (.slice D2 k2 d2) := ap.nx.blk.cell 2; clear ap g1 g2 g3))
    all_goals (go_wp2_with fail)
    all_goals (go_meet)
    all_goals exact ⟨_, PF.out.set2 _⟩
  case rest =>
  obtain ⟨u, hP⟩ := hcut
  have P6 := Lib.hid hP
  have PA := Lib.hid hP.drew
  have yA : wc.drew.cell? ⟨xb, 3, none⟩ = some (.slice D3 k3 d3) := PA.out.nx.blk.cell 3
  clear hP hld yA
  have yA : wc.drew.cell? ⟨xb, 3, none⟩ = some (.slice D3 k3 d3) := PA.out.nx.blk.cell 3
  go_upto_region 4 with fail
  by_cases b5 : z5 = 0
  case neg =>
    have Er := Lib.hid (show Nd.rds (Nd.width hd) l = .error z5 from by rw [WD.out]; exact X1.out trivial (X2.out B2.out (X3.out B3.out (X4.out B4.out (S5.out b5 _)))))
    have B5 := Lib.hid b5
    clear b5
    go_region_with (first
      | (go_at_call 73; ((with_reducible refine (F5.out B5.out PA.out.rd).mono ?_); rintro r w5 ⟨rfl, r5, c5⟩; refine panic_at (P := Try.prog) w5 (bp_panic rfl (.inr ⟨z5, m4, Er.out, B5.out, rfl, r5, PA.out.chg.then_ (c5.mono fun _ h => .inr (.inl h))⟩)) ?_)))
    all_goals trivial
  have B5 := Lib.hid b5
  clear b5
  obtain ⟨i1, hi1, hz1, hs1, hb1⟩ := nint_parts
  have hld : ldP3 = Op.load 49 (.tmp 55) := rfl
  have Fin := Lib.hid (fun (V : World) (q1 q2 q3 q4 : Value) (hP : PS w0 V B R L xb H (hd : Int) (ks ++ [(a1 : Int)]) (ps ++ [((a2 : Int), (a3 : Int), (a4 : Int))]) (gs ++ [(a5 : Int)]) cs q1 q2 q3 q4 q1 q2 q3 q4 m5 0) => show RkQ w0 B R L xb H hd n l (.returned (.tuple #[])) V from by
    have e2 : Nd.more n [a1, a2, a3, a4, a5] = ⟨(hd : Int), (ks ++ [(a1 : Int)]), ps ++ [((a2 : Int), (a3 : Int), (a4 : Int))], gs ++ [(a5 : Int)], cs⟩ := by
      rw [Ed.out, HN.out]; rfl
    refine .inl ⟨[a1, a2, a3, a4, a5], m5, q1, q2, q3, q4, ?_, rfl, ?_⟩
    · rw [WD.out]; exact O1.out trivial (O2.out B2.out (O3.out B3.out (O4.out B4.out (O5.out B5.out rfl))))
    · rw [e2]; exact hP)
  rw [← hld]
  go_region_held3 (fun _ => True) (trivial) (first
    | (go_at_call 73; ((with_reducible refine (G5.out B5.out PA.out.rd).mono ?_); rintro r w9 ⟨rfl, r6, c6⟩; have P9 := Lib.hid (PA.out.num r6 c6); have yw9 : w9.cell? ⟨xb, 3, none⟩ = some (.slice D3 k3 d3) := P9.out.nx.blk.cell 3; clear r6 c6; have PZ := Lib.hid (P9.out.alloc (.cells #[.int .i64 (a5 : Int)] 3)); have yZ : (w9.alloc (.cells #[.int .i64 (a5 : Int)] 3)).cell? ⟨xb, 3, none⟩ = some (.slice D3 k3 d3) := PZ.out.nx.blk.cell 3))
    | (refine step_append3 (base := H) _ rfl (.tmp 56) (.tmp 59) _ rfl Try.underlying49 hi1 hz1 hs1 hb1 rfl (by decide) rfl PZ.out.nx.o3 (m := 1) (news := [.int .i64 (a5 : Int)]) rfl rfl (by simp) (Nat.le_refl _) sl_one' (by simp [Value.oneCell']) (by rw [← E3.out]; unfold maxLen; omega) (by rw [← E3.out]; omega) PZ.out.nx.hz ?_; intro v11 w11 g1 g2 g3; rw [← E3.out] at g1; have ap := PZ.out.app3 (a5 : Int) E3.out g1 g2 g3; obtain ⟨D8, d8, rfl⟩ := own_slice g1; have PF := Lib.hid ap; have fz : w11.frozen? ⟨xb, 3, none⟩ = false := ap.nx.blk.frozen 3; have yW : w11.cell? ⟨xb, 3, none⟩ = some (.slice D3 k3 d3) := ap.nx.blk.cell 3; clear ap g1 g2 g3))
  all_goals
    have FF := Lib.hid (Fin.out _ _ _ _ _ (PF.out.set3 _))
    go_wp2_with fail
    refine bodyPost_end (results_none rfl _ _ _) rfl ?_
    exact FF.out
end Go.Proofs.Ytaainefdjbmekaa
