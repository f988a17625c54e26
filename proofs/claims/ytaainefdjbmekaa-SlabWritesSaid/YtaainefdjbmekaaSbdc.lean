/- The program's reader beside a node that is being read. The program's May. -/
import Derived.Test.YtaainefdjbmekaaSbci
import Derived.Test.YtaainefdjbmekaaSbdb
namespace Go.Proofs.Ytaainefdjbmekaa
open Go.RowKit Vint
theorem panic_at {P : Program} (w : World) {G : Prop} (h : G) : wpAny P .any #[] (fun _ _ _ => True) 0 #[] { tmps := #[], defers := [] } w → G := fun _ => h
section
variable {w w' : World} {B R L H xb : Nat} {l : List Nat} {e : Int}
theorem Rd.below_ (h : Rd w B R L l e) (hb : Below w.heap.size w w') : Rd w' B R L l e := h.keep (F := fun _ => False) (Chg.of_below _ hb) (fun _ h => h.elim)
theorem Rd.set_ (h : Rd w B R L l e) (hx : xb < B) (i : Nat) (v : Value) : Rd (w.setCell ⟨xb, i, none⟩ v) B R L l e := h.keep (F := fun b => b = xb) ((Chg.refl (fun b => b = xb) w).setCell (p := ⟨xb, i, none⟩) (.inl rfl) v) (fun b hb => by rw [hb]; exact hx)
theorem Rd.grown_ (h : Rd w B R L l e) {t : TypeId} {size n : Nat} {u : Value} {xs : List Value} (ho : w.ownsRow H t size u n xs) (t1 : t ≠ 34) (t2 : t ≠ 151) (t3 : t ≠ 5) (hg : w.grownBy w' u.ownBlock) : Rd w' B R L l e := by
  obtain ⟨bR, bL, hb, hl, hlast, A, c, hblk, hlc, hA, hd⟩ := h
  refine ⟨bR, bL, hb, hl, hlast.keep (hg.block L hlast.lt fun e => own_ne ho hlast t1 L e.symm rfl), A, c, hblk.keep (hg.block R hblk.lt fun e => own_ne ho hblk t2 R e.symm rfl), hlc, hA, ?_⟩
  exact hd.keep fun b hlt cur hb => hg.block b hlt fun e => own_ne ho hb t3 b e.symm rfl
theorem pnum_ok (h : Rd w B R L l e) (h0 : (num l).2.2 = 0) {a : Nat} {m : List Nat} (ha : a = (num l).1) (hm : m = l.drop (num l).2.1) :
    Calls Try.prog 73 #[.pointer (some ⟨R, 0, none⟩)] w fun r w' => r = .returned (.int .i64 (a : Int)) ∧ Rd w' B R L m 0 ∧ Chg (RL R L) w w' := by
  rw [ha, hm]; exact rnum_ok h h0
theorem pnum_bad (h : Rd w B R L l e) {k : Nat} (hk : k = (num l).2.2) (h0 : k ≠ 0) :
    Calls Try.prog 73 #[.pointer (some ⟨R, 0, none⟩)] w fun r w' => r = .panicked [{ v := .iface 34 (.int .i64 (k : Int)), recovered := false }] ∧ Rd w' B R L l (k : Int) ∧ Chg (RL R L) w w' := by
  rw [hk] at h0 ⊢; exact rnum_bad h h0
end
/-- What reading a key may change. -/
def GX (xb R L H : Nat) : Nat → Prop := fun b => b = xb ∨ RL R L b ∨ H ≤ b
/-- A node that is being read, the program's reader beside it. -/
structure PS (w0 w : World) (B R L xb H : Nat) (hh : Int) (ks : List Int) (ps : List Nd.T3) (gs : List Int) (cs : List Nd.T3) (v1 v2 v3 v4 u1 u2 u3 u4 : Value) (l : List Nat) (e : Int) : Prop where
  rd : Rd w B R L l e
  nx : NX w xb H 62 57 hh ks ps gs cs v1 v2 v3 v4 u1 u2 u3 u4
  chg : Chg (GX xb R L H) w0 w
  hx : xb < B
  hR : R < H
  hL : L < H
section
variable {w0 w w' w6 : World} {B R L xb H : Nat} {hh : Int} {ks gs : List Int} {ps cs : List Nd.T3} {v1 v2 v3 v4 u1 u2 u3 u4 u v : Value} {l m : List Nat} {e e' : Int}
theorem PS.num (h : PS w0 w B R L xb H hh ks ps gs cs v1 v2 v3 v4 u1 u2 u3 u4 l e) (hr : Rd w' B R L m e') (hc : Chg (RL R L) w w') : PS w0 w' B R L xb H hh ks ps gs cs v1 v2 v3 v4 u1 u2 u3 u4 m e' :=
  ⟨hr, h.nx.chg hc (fun b hb => by have := h.rd.bR; have := h.rd.bL; have := h.hx; have := h.hR; have := h.hL; rcases hb with hb | hb <;> omega), h.chg.then_ (hc.mono fun _ h => .inr (.inl h)), h.hx, h.hR, h.hL⟩
theorem PS.below (h : PS w0 w B R L xb H hh ks ps gs cs v1 v2 v3 v4 u1 u2 u3 u4 l e) (hb : Below w.heap.size w w') : PS w0 w' B R L xb H hh ks ps gs cs v1 v2 v3 v4 u1 u2 u3 u4 l e :=
  ⟨h.rd.below_ hb, h.nx.below hb, h.chg.then_ (Chg.of_below _ hb), h.hx, h.hR, h.hL⟩
theorem PS.drew (h : PS w0 w B R L xb H hh ks ps gs cs v1 v2 v3 v4 u1 u2 u3 u4 l e) : PS w0 w.drew B R L xb H hh ks ps gs cs v1 v2 v3 v4 u1 u2 u3 u4 l e := h.below (Below.refl _ w).drew
theorem PS.alloc (h : PS w0 w B R L xb H hh ks ps gs cs v1 v2 v3 v4 u1 u2 u3 u4 l e) (x : Obj) : PS w0 (w.alloc x) B R L xb H hh ks ps gs cs v1 v2 v3 v4 u1 u2 u3 u4 l e := h.below ((Below.refl _ _).alloc (Nat.le_refl _) x)
theorem PS.set0 (h : PS w0 w B R L xb H hh ks ps gs cs v1 v2 v3 v4 u1 u2 u3 u4 l e) (hh' : Int) : PS w0 (w.setCell ⟨xb, 0, none⟩ (.int .i64 hh')) B R L xb H hh' ks ps gs cs v1 v2 v3 v4 u1 u2 u3 u4 l e :=
  ⟨h.rd.set_ h.hx 0 _, h.nx.set0 hh', h.chg.setCell (p := ⟨xb, 0, none⟩) (.inl (.inl rfl)) _, h.hx, h.hR, h.hL⟩
theorem PS.set1 (h : PS w0 w B R L xb H hh ks ps gs cs v1 v2 v3 v4 u1 u2 u3 u4 l e) (v : Value) : PS w0 (w.setCell ⟨xb, 1, none⟩ v) B R L xb H hh ks ps gs cs v v2 v3 v4 u1 u2 u3 u4 l e :=
  ⟨h.rd.set_ h.hx 1 _, h.nx.set1 v, h.chg.setCell (p := ⟨xb, 1, none⟩) (.inl (.inl rfl)) _, h.hx, h.hR, h.hL⟩
theorem PS.set2 (h : PS w0 w B R L xb H hh ks ps gs cs v1 v2 v3 v4 u1 u2 u3 u4 l e) (v : Value) : PS w0 (w.setCell ⟨xb, 2, none⟩ v) B R L xb H hh ks ps gs cs v1 v v3 v4 u1 u2 u3 u4 l e :=
  ⟨h.rd.set_ h.hx 2 _, h.nx.set2 v, h.chg.setCell (p := ⟨xb, 2, none⟩) (.inl (.inl rfl)) _, h.hx, h.hR, h.hL⟩
theorem PS.set3 (h : PS w0 w B R L xb H hh ks ps gs cs v1 v2 v3 v4 u1 u2 u3 u4 l e) (v : Value) : PS w0 (w.setCell ⟨xb, 3, none⟩ v) B R L xb H hh ks ps gs cs v1 v2 v v4 u1 u2 u3 u4 l e :=
  ⟨h.rd.set_ h.hx 3 _, h.nx.set3 v, h.chg.setCell (p := ⟨xb, 3, none⟩) (.inl (.inl rfl)) _, h.hx, h.hR, h.hL⟩
theorem PS.set4 (h : PS w0 w B R L xb H hh ks ps gs cs v1 v2 v3 v4 u1 u2 u3 u4 l e) (v : Value) : PS w0 (w.setCell ⟨xb, 4, none⟩ v) B R L xb H hh ks ps gs cs v1 v2 v3 v u1 u2 u3 u4 l e :=
  ⟨h.rd.set_ h.hx 4 _, h.nx.set4 v, h.chg.setCell (p := ⟨xb, 4, none⟩) (.inl (.inl rfl)) _, h.hx, h.hR, h.hL⟩
theorem PS.app1 (h : PS w0 w B R L xb H hh ks ps gs cs v1 v2 v3 v4 u1 u2 u3 u4 l e) (x : Int) {k : Nat} (hk : k = ks.length) (hown : w6.ownsRow H 3 1 u (k + 1) (ivs ks ++ [.int .i64 x])) (hg : w.grownBy w6 u1.ownBlock) (hb : u.ownBlock = u1.ownBlock ∨ u.ownBlock = some w.heap.size) : PS w0 w6 B R L xb H hh (ks ++ [x]) ps gs cs v1 v2 v3 v4 u u2 u3 u4 l e :=
  ⟨h.rd.grown_ h.nx.o1 (by decide) (by decide) (by decide) hg, (h.nx.app1 x hk hown hg hb).1, h.chg.grown hg (fun g hg' => .inl (.inr (.inr (h.nx.o1.lt g hg').1))), h.hx, h.hR, h.hL⟩
theorem PS.app2 (h : PS w0 w B R L xb H hh ks ps gs cs v1 v2 v3 v4 u1 u2 u3 u4 l e) (x : Nd.T3) {k : Nat} (hk : k = ps.length) (hown : w6.ownsRow H 51 3 u (k + 1) (tcs ps ++ [.int .i64 x.1, .int .i64 x.2.1, .int .i64 x.2.2])) (hg : w.grownBy w6 u2.ownBlock) (hb : u.ownBlock = u2.ownBlock ∨ u.ownBlock = some w.heap.size) : PS w0 w6 B R L xb H hh ks (ps ++ [x]) gs cs v1 v2 v3 v4 u1 u u3 u4 l e :=
  ⟨h.rd.grown_ h.nx.o2 (by decide) (by decide) (by decide) hg, (h.nx.app2 x hk hown hg hb).1, h.chg.grown hg (fun g hg' => .inl (.inr (.inr (h.nx.o2.lt g hg').1))), h.hx, h.hR, h.hL⟩
theorem PS.app3 (h : PS w0 w B R L xb H hh ks ps gs cs v1 v2 v3 v4 u1 u2 u3 u4 l e) (x : Int) {k : Nat} (hk : k = gs.length) (hown : w6.ownsRow H 3 1 u (k + 1) (ivs gs ++ [.int .i64 x])) (hg : w.grownBy w6 u3.ownBlock) (hb : u.ownBlock = u3.ownBlock ∨ u.ownBlock = some w.heap.size) : PS w0 w6 B R L xb H hh ks ps (gs ++ [x]) cs v1 v2 v3 v4 u1 u2 u u4 l e :=
  ⟨h.rd.grown_ h.nx.o3 (by decide) (by decide) (by decide) hg, (h.nx.app3 x hk hown hg hb).1, h.chg.grown hg (fun g hg' => .inl (.inr (.inr (h.nx.o3.lt g hg').1))), h.hx, h.hR, h.hL⟩
theorem PS.app4 (h : PS w0 w B R L xb H hh ks ps gs cs v1 v2 v3 v4 u1 u2 u3 u4 l e) (x : Nd.T3) {k : Nat} (hk : k = cs.length) (hown : w6.ownsRow H 57 3 u (k + 1) (tcs cs ++ [.int .i64 x.1, .int .i64 x.2.1, .int .i64 x.2.2])) (hg : w.grownBy w6 u4.ownBlock) (hb : u.ownBlock = u4.ownBlock ∨ u.ownBlock = some w.heap.size) : PS w0 w6 B R L xb H hh ks ps gs (cs ++ [x]) v1 v2 v3 v4 u1 u2 u3 u l e :=
  ⟨h.rd.grown_ h.nx.o4 (by decide) (by decide) (by decide) hg, (h.nx.app4 x hk hown hg hb).1, h.chg.grown hg (fun g hg' => .inl (.inr (.inr (h.nx.o4.lt g hg').1))), h.hx, h.hR, h.hL⟩
end
end Go.Proofs.Ytaainefdjbmekaa
namespace Go.Proofs.Ytaainefdjbmekaa
open Go.RowKit
set_option maxHeartbeats 2000000 in
theorem below_any (x e : Int) (w : World) : Calls Try.prog 83 #[.int .i64 x, .int .i64 e] w fun r w' => r = .returned (.bool (decide (0 ≤ x ∧ x < e))) ∧ w = w' := by
  by_cases h0 : 0 ≤ x
  case neg =>
    have E : decide (0 ≤ x ∧ x < e) = false := by rw [decide_eq_false_iff_not]; omega
    have z0 : decide ((0 : Int) ≤ x) = false := by rw [decide_eq_false_iff_not]; exact h0
    rw [E]
    clear E h0
    go_enter Try.func83, Try.ntmps83
    go_wp2_with fail
    go_ret
    exact ⟨rfl, rfl⟩
  have z0 : decide ((0 : Int) ≤ x) = true := by rw [decide_eq_true_eq]; exact h0
  by_cases h1 : x < e
  case neg =>
    have E : decide (0 ≤ x ∧ x < e) = false := by rw [decide_eq_false_iff_not]; omega
    have z1 : decide (x < e) = false := by rw [decide_eq_false_iff_not]; exact h1
    rw [E]
    clear E h0 h1
    go_enter Try.func83, Try.ntmps83
    go_wp2_with fail
    go_ret
    exact ⟨rfl, rfl⟩
  have z1 : decide (x < e) = true := by rw [decide_eq_true_eq]; exact h1
  have E : decide (0 ≤ x ∧ x < e) = true := by rw [decide_eq_true_eq]; exact ⟨h0, h1⟩
  rw [E]
  clear E h0 h1
  go_enter Try.func83, Try.ntmps83
  go_wp2_with fail
  go_ret
  exact ⟨rfl, rfl⟩
theorem below_is (x e : Int) (r : Bool) (h : decide (0 ≤ x ∧ x < e) = r) (w : World) : Calls Try.prog 83 #[.int .i64 x, .int .i64 e] w fun q w' => q = .returned (.bool r) ∧ w = w' := by
  rw [← h]; exact below_any x e w
set_option maxHeartbeats 2000000 in
theorem isrun_any (a n : Int) (w : World) : Calls Try.prog 99 #[.int .i64 a, .int .i64 n] w fun e w' => e = .returned (.bool (decide (Nd.RunOk a n))) ∧ w = w' := by
  by_cases h0 : 0 ≤ a ∧ a < 8192
  case neg =>
    have E : decide (Nd.RunOk a n) = false := by rw [decide_eq_false_iff_not]; intro h; unfold Nd.RunOk at h; omega
    have NB := Lib.hid (below_is a 8192 false (decide_eq_false h0) w)
    rw [E]
    clear E h0
    go_enter Try.func99, Try.ntmps99
    go_wp2_with (first | (go_at_call 83; (with_reducible refine NB.out.mono ?_); rintro e w2 ⟨rfl, h2⟩; subst h2))
    go_ret
    exact ⟨rfl, rfl⟩
  have NB := Lib.hid (below_is a 8192 true (decide_eq_true h0) w)
  by_cases h1 : 1 ≤ n
  case neg =>
    have E : decide (Nd.RunOk a n) = false := by rw [decide_eq_false_iff_not]; intro h; unfold Nd.RunOk at h; omega
    have zh1 : decide ((1 : Int) ≤ n) = false := by rw [decide_eq_false_iff_not]; exact h1
    rw [E]
    clear E h0 h1
    go_enter Try.func99, Try.ntmps99
    go_wp2_with (first | (go_at_call 83; (with_reducible refine NB.out.mono ?_); rintro e w2 ⟨rfl, h2⟩; subst h2))
    go_ret
    exact ⟨rfl, rfl⟩
  have zh1 : decide ((1 : Int) ≤ n) = true := by rw [decide_eq_true_eq]; exact h1
  by_cases h2 : n ≤ 128
  case neg =>
    have E : decide (Nd.RunOk a n) = false := by rw [decide_eq_false_iff_not]; intro h; unfold Nd.RunOk at h; omega
    have zh2 : decide (n ≤ 128) = false := by rw [decide_eq_false_iff_not]; exact h2
    rw [E]
    clear E h0 h1 h2
    go_enter Try.func99, Try.ntmps99
    go_wp2_with (first | (go_at_call 83; (with_reducible refine NB.out.mono ?_); rintro e w2 ⟨rfl, h2⟩; subst h2))
    go_ret
    exact ⟨rfl, rfl⟩
  have zh2 : decide (n ≤ 128) = true := by rw [decide_eq_true_eq]; exact h2
  have hw : IntKind.i64.wrap (a + n) = a + n := by rw [IntKind.wrap_i64]; omega
  by_cases h3 : a + n ≤ 8192
  case neg =>
    have E : decide (Nd.RunOk a n) = false := by rw [decide_eq_false_iff_not]; intro h; unfold Nd.RunOk at h; omega
    have z3 : decide (a + n ≤ 8192) = false := by rw [decide_eq_false_iff_not]; exact h3
    rw [E]
    clear E h0 h1 h2 h3
    go_enter Try.func99, Try.ntmps99
    go_wp2_with (first | (go_at_call 83; (with_reducible refine NB.out.mono ?_); rintro e w2 ⟨rfl, h2⟩; subst h2))
    go_ret
    exact ⟨rfl, rfl⟩
  have z3 : decide (a + n ≤ 8192) = true := by rw [decide_eq_true_eq]; exact h3
  have E : decide (Nd.RunOk a n) = true := by rw [decide_eq_true_eq]; unfold Nd.RunOk; omega
  rw [E]
  clear E h0 h1 h2 h3
  go_enter Try.func99, Try.ntmps99
  go_wp2_with (first | (go_at_call 83; (with_reducible refine NB.out.mono ?_); rintro e w2 ⟨rfl, h2⟩; subst h2))
  go_ret
  exact ⟨rfl, rfl⟩
theorem isrun_is (a n : Int) (r : Bool) (h : decide (Nd.RunOk a n) = r) (w : World) : Calls Try.prog 99 #[.int .i64 a, .int .i64 n] w fun e w' => e = .returned (.bool r) ∧ w = w' := by
  rw [← h]; exact isrun_any a n w
theorem Nd.KeysOk.no {ks : List Int} {i k : Nat} (h : Nd.KeysOk ks k) (hi : i < k) : 0 ≤ Nd.at_ ks i ∧ Nd.at_ ks i < 512 := h.1 i hi
set_option maxRecDepth 8000 in
set_option maxHeartbeats 8000000 in
theorem arekeys_any {w : World} {A : Option Addr} {c : Nat} {ks : List Int} (h : SlC w w.heap.size A c ks.length (ivs ks)) (hl : ks.length ≤ 1000) (R : Bool) (hT : R = true ↔ Nd.KeysOk ks ks.length) : Calls Try.prog 84 #[.slice A ks.length c] w fun e w' => e = .returned (.bool R) ∧ w = w' := by
  have H := Lib.hid h
  have HT := Lib.hid hT
  have no : Hid (¬ Nd.KeysOk ks ks.length → R = false) := Lib.hid fun h => by
    cases hR : R with
    | false => rfl
    | true => exact absurd (hT.1 hR) h
  obtain ⟨k1, e1⟩ : ∃ k, k = ks.length := ⟨_, rfl⟩
  have E1 := Lib.hid e1
  rw [← e1] at hl ⊢
  clear h hT e1
  go_enter Try.func84, Try.ntmps84
  go_wp2_with fail
  go_loopw [3, 4, 7] (fun _ _ v wr => ∃ i : Nat, v = .int .i64 (i : Int) ∧ i ≤ k1 ∧ wr = w ∧ Nd.KeysOk ks i) (fun _ _ v _ => k1 - (intOf v).toNat)
  case atStart => exact ⟨0, rfl, Nat.zero_le _, rfl, fun j hj => absurd hj (Nat.not_lt_zero _), fun j hj => absurd hj (Nat.not_lt_zero _)⟩
  case round =>
    obtain ⟨i, rfl, hi, hwr, hK⟩ := hrel
    subst hwr
    have HK := Lib.hid hK
    clear hK
    by_cases hik : i < k1
    · have y0 : decide ((i : Int) < (k1 : Int)) = true := by rw [decide_eq_true_eq]; omega
      have y0' : decide (i < k1) = true := by rw [decide_eq_true_eq]; exact hik
      have hki : (i : Int) < (k1 : Int) := by omega
      obtain ⟨g, o, rfl, -, hc⟩ := H.out.int (i := i) (by rw [← E1.out]; exact hik)
      obtain ⟨x, hx⟩ : ∃ x, x = Nd.at_ ks i := ⟨_, rfl⟩
      have Hx := Lib.hid hx
      rw [← hx] at hc
      clear hx
      by_cases hx0 : 0 ≤ x ∧ x < 512
      case neg =>
        have NB := Lib.hid (below_is x 512 false (decide_eq_false hx0) wr)
        have F := no.out fun o => by have := o.no (i := i) (by rw [← E1.out]; exact hik); rw [← Hx.out] at this; exact hx0 this
        clear hx0
        go_wp2_with (go_at_call 83; (with_reducible refine NB.out.mono ?_); rintro e w2 ⟨rfl, h2⟩; subst h2)
        go_ret
        exact ⟨by rw [F]; rfl, rfl⟩
      have NB := Lib.hid (below_is x 512 true (decide_eq_true hx0) wr)
      by_cases hi0 : i = 0
      · have y3 : decide ((0 : Int) < (i : Int)) = false := by rw [decide_eq_false_iff_not]; omega
        have y3' : decide (0 < i) = false := by rw [decide_eq_false_iff_not]; omega
        have Nx := Lib.hid (HK.out.next (by rw [← Hx.out]; omega) (fun p hp => by omega))
        clear hx0 hi0
        go_wp2_with (go_at_call 83; (with_reducible refine NB.out.mono ?_); rintro e w2 ⟨rfl, h2⟩; subst h2)
        go_roundw
        case rel => exact ⟨i + 1, by go_num, by omega, by trivial, Nx.out⟩
        case measure => simp [intOf]; omega
      · obtain ⟨p, hp⟩ : ∃ p, i = p + 1 := ⟨i - 1, by omega⟩
        obtain ⟨g', o', e, -, hc2⟩ := H.out.int (i := p) (by rw [← E1.out]; omega)
        injection e with e
        injection e with e e'
        subst e; subst e'
        obtain ⟨y, hy⟩ : ∃ y, y = Nd.at_ ks p := ⟨_, rfl⟩
        have Hy := Lib.hid hy
        rw [← hy] at hc2
        clear hy
        have y3 : decide ((0 : Int) < (i : Int)) = true := by rw [decide_eq_true_eq]; omega
        have y3' : decide (0 < i) = true := by rw [decide_eq_true_eq]; omega
        have s1 : (i : Int) - 1 = (p : Int) := by omega
        have s2 : IntKind.i64.wrap ((i : Int) - 1) = (p : Int) := by rw [s1, IntKind.wrap_i64]; omega
        have hpk : (p : Int) < (k1 : Int) := by omega
        have Hp := Lib.hid hp
        by_cases hxy : x ≤ y
        · have y4 : decide (x ≤ y) = true := by rw [decide_eq_true_eq]; exact hxy
          have F := no.out fun o => by have := o.2 p (by rw [← E1.out]; omega); rw [← Hp.out, ← Hx.out, ← Hy.out] at this; omega
          clear hx0 hxy hp hi0
          go_wp2_with (go_at_call 83; (with_reducible refine NB.out.mono ?_); rintro e w2 ⟨rfl, h2⟩; subst h2)
          go_ret
          exact ⟨by rw [F]; rfl, rfl⟩
        · have y4 : decide (x ≤ y) = false := by rw [decide_eq_false_iff_not]; exact hxy
          have Nx := Lib.hid (HK.out.next (by rw [← Hx.out]; omega) (fun q hq => by rw [show q = p by omega, ← Hx.out, ← Hy.out]; omega))
          clear hx0 hxy hp hi0
          go_wp2_with (go_at_call 83; (with_reducible refine NB.out.mono ?_); rintro e w2 ⟨rfl, h2⟩; subst h2)
          go_roundw
          case rel => exact ⟨i + 1, by go_num, by omega, by trivial, Nx.out⟩
          case measure => simp [intOf]; omega
    · have hik' : i = k1 := by omega
      have y0 : decide ((i : Int) < (k1 : Int)) = false := by rw [decide_eq_false_iff_not]; omega
      have y0' : decide (i < k1) = false := by rw [decide_eq_false_iff_not]; exact hik
      have F : R = true := HT.out.2 (by rw [← E1.out, ← hik']; exact HK.out)
      clear hik'
      go_wp2_with fail
      go_ret
      exact ⟨by rw [F]; rfl, rfl⟩
end Go.Proofs.Ytaainefdjbmekaa
