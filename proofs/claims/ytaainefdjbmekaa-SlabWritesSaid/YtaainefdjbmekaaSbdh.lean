/- The function that the program's Decode hands to the reader. -/
import Derived.Test.YtaainefdjbmekaaSbdf
import Derived.Test.YtaainefdjbmekaaSbdg
namespace Go.Proofs.Ytaainefdjbmekaa
open Go.RowKit Vint
abbrev pdZ : Array Value := #[.int .i64 0, .slice none 0 0, .slice none 0 0, .slice none 0 0, .slice none 0 0]
theorem Chg.within {F G : Nat → Prop} {a b : World} (h : Chg F a b) (hFG : ∀ i, i < a.heap.size → F i → G i) : Chg G a b := ⟨h.os, h.tape, h.output, h.size, fun i hi hg => h.block i hi fun hf => hg (hFG i hi hf)⟩
/-- What the function may change. -/
def XD (nb tm R L : Nat) : Nat → Prop := fun b => (b = nb ∨ b = tm) ∨ RL R L b
/-- What the function does. -/
def DcQ (w1 : World) (B R L nb tm : Nat) (b : List Nat) (r : Ending) (w2 : World) : Prop := Chg (XD nb tm R L) w1 w2 ∧ match Nd.cls b with
  | .bad k => k ≠ 0 ∧ r = .panicked [{ v := .iface 34 (.int .i64 (k : Int)), recovered := false }] ∧ (∃ l', Rd w2 B R L l' (k : Int)) ∧ Blk w2 tm 4 #[.bool false]
  | .many s => r = .returned (.tuple #[]) ∧ Rd w2 B R L s 0 ∧ Blk w2 tm 4 #[.bool true]
  | .fine n u => r = .returned (.tuple #[]) ∧ Rd w2 B R L u 0 ∧ Blk w2 tm 4 #[.bool false] ∧ ∃ v1 v2 v3 v4, NX w2 nb w1.heap.size 62 57 n.h n.ks n.ps n.gs n.cs v1 v2 v3 v4 v1 v2 v3 v4
set_option maxRecDepth 8000 in
set_option maxHeartbeats 16000000 in
theorem dc_any {w : World} {B R L nb tm : Nat} {b : List Nat} (hr : Rd w B R L b 0) (hn : Blk w nb 62 pdZ) (ht : Blk w tm 4 #[.bool false]) (hnB : nb < B) (htB : tm < B) :
    Calls Try.prog 72 #[.pointer (some ⟨R, 0, none⟩), .pointer (some ⟨nb, 0, none⟩), .pointer (some ⟨tm, 0, none⟩)] w (DcQ w B R L nb tm b) := by
  have hnt : nb ≠ tm := Blk.ne_ hn ht (by decide)
  obtain ⟨H, hH⟩ : ∃ H, w.heap.size = H := ⟨_, rfl⟩
  have hRH : R < H := by obtain ⟨A, c, h, _⟩ := hr.ex; rw [← hH]; exact h.lt
  have hLH : L < H := by rw [← hH]; exact hr.last.lt
  have hBR := hr.bR
  have hBL := hr.bL
  have hz := hr.byte
  have hnH : nb < H := by omega
  have P0 : PS w w B R L nb H 0 [] [] [] [] (.slice none 0 0) (.slice none 0 0) (.slice none 0 0) (.slice none 0 0) (.slice none 0 0) (.slice none 0 0) (.slice none 0 0) (.slice none 0 0) b 0 :=
    ⟨hr, ⟨hn, World.ownsRow_nil _ _ _ _, World.ownsRow_nil _ _ _ _, World.ownsRow_nil _ _ _ _, World.ownsRow_nil _ _ _ _, fun g h => by simp [Value.ownBlock] at h, hnH, Nat.le_of_eq hH.symm, by decide, by decide⟩, Chg.refl _ _, hnB, hRH, hLH⟩
  have HT := Lib.hid ht
  have Ntm := Lib.hid (show ¬ GX nb R L H tm from fun h => by rcases h with h | (h | h) | h <;> omega)
  have Cw := Lib.hid (fun (V : World) (h : Chg (GX nb R L H) w V) => show Chg (XD nb tm R L) w V ∧ Blk V tm 4 #[.bool false] from
    ⟨h.within fun i hi hg => by
      rcases hg with h | h | h
      · exact .inl (.inl h)
      · exact .inr h
      · omega, ht.keep (h.block tm ht.lt Ntm.out)⟩)
  have Nx0 := Lib.hid (show ∀ k, (num b).2.2 = k → k ≠ 0 → Nd.cls b = .bad k from fun k h1 h2 => Nd.cls_head (by rw [Nd.nx_bad (by rw [h1]; exact h2), h1]; rfl))
  obtain ⟨a1, ha1⟩ : ∃ a, a = (num b).1 := ⟨_, rfl⟩
  obtain ⟨m1, hm1⟩ : ∃ a, a = b.drop (num b).2.1 := ⟨_, rfl⟩
  obtain ⟨z1, hz1⟩ : ∃ a, a = (num b).2.2 := ⟨_, rfl⟩
  by_cases b1 : z1 = 0
  case neg =>
    have NB := Lib.hid (pnum_bad P0.rd hz1 b1)
    have hc := Nx0.out z1 hz1.symm b1
    have Fin := Lib.hid (fun (V : World) (h1 : Rd V B R L b (z1 : Int)) (h2 : Chg (RL R L) w V) => show DcQ w B R L nb tm b (.panicked [{ v := .iface 34 (.int .i64 (z1 : Int)), recovered := false }]) V from by
      obtain ⟨c1, c2⟩ := Cw.out V (h2.mono fun _ h => .inr (.inl h))
      refine ⟨c1, ?_⟩
      rw [hc]
      exact ⟨b1, rfl, ⟨b, h1⟩, c2⟩)
    clear hc b1 hz1 ha1 hm1 P0 hr hn ht hz
    go_enter Try.func72, Try.ntmps72
    go_wp2_with fail
    refine NB.out.mono ?_
    rintro r w5 ⟨rfl, r5, c5⟩
    have FF := Lib.hid (Fin.out w5 r5 c5)
    clear r5 c5
    go_wp2_with fail
    exact bp_panic rfl FF.out
  have c1 : (num b).2.2 = 0 := by rw [← hz1]; exact b1
  have N1 := Lib.hid (pnum_ok P0.rd c1 ha1 hm1)
  have hx1 : Nd.nx (.ok b) = (a1, .ok m1) := by rw [Nd.nx_ok c1, ha1, hm1]
  have HP0 := Lib.hid P0
  obtain ⟨a2, ha2⟩ : ∃ a, a = (num m1).1 := ⟨_, rfl⟩
  obtain ⟨m2, hm2⟩ : ∃ a, a = m1.drop (num m1).2.1 := ⟨_, rfl⟩
  obtain ⟨z2, hz2⟩ : ∃ a, a = (num m1).2.2 := ⟨_, rfl⟩
  clear c1 hz1 ha1 hm1 b1 P0 hr hn ht hz
  have Stp := Lib.hid (fun (V : World) (e : Int) (hP : PS w V B R L nb H 0 [] [] [] [] (.slice none 0 0) (.slice none 0 0) (.slice none 0 0) (.slice none 0 0) (.slice none 0 0) (.slice none 0 0) (.slice none 0 0) (.slice none 0 0) m1 e) => show V.frozen? ⟨nb, 0, none⟩ = false ∧ V.cell? ⟨nb, 0, none⟩ = some (.int .i64 0) ∧ PS w (V.setCell ⟨nb, 0, none⟩ (.int .i64 (a1 : Int))) B R L nb H (a1 : Int) [] [] [] [] (.slice none 0 0) (.slice none 0 0) (.slice none 0 0) (.slice none 0 0) (.slice none 0 0) (.slice none 0 0) (.slice none 0 0) (.slice none 0 0) m1 e from ⟨hP.nx.blk.frozen 0, hP.nx.blk.cell 0, hP.set0 (a1 : Int)⟩)
  by_cases b2 : z2 = 0
  case neg =>
    have hc : Nd.cls b = .bad z2 := Nd.cls_head (by rw [hx1, Nd.nx_bad (by rw [← hz2]; exact b2), ← hz2])
    have NB := Lib.hid (fun (V : World) (e : Int) (h : Rd V B R L m1 e) => pnum_bad h hz2 b2)
    have Fin := Lib.hid (fun (V V' : World) (hP : PS w V B R L nb H (a1 : Int) [] [] [] [] (.slice none 0 0) (.slice none 0 0) (.slice none 0 0) (.slice none 0 0) (.slice none 0 0) (.slice none 0 0) (.slice none 0 0) (.slice none 0 0) m1 0) (h1 : Rd V' B R L m1 (z2 : Int)) (h2 : Chg (RL R L) V V') => show DcQ w B R L nb tm b (.panicked [{ v := .iface 34 (.int .i64 (z2 : Int)), recovered := false }]) V' from by
      obtain ⟨c1, c2⟩ := Cw.out V' (hP.chg.then_ (h2.mono fun _ h => .inr (.inl h)))
      refine ⟨c1, ?_⟩
      rw [hc]
      exact ⟨b2, rfl, ⟨m1, h1⟩, c2⟩)
    clear hc b2 hz2 ha2 hm2 hx1
    go_enter Try.func72, Try.ntmps72
    go_wp2_with fail
    refine N1.out.mono ?_
    rintro r w5 ⟨rfl, r5, c5⟩
    obtain ⟨f5, y5, P5⟩ := Stp.out w5 0 (HP0.out.num r5 c5)
    have NB := Lib.hid (NB.out _ _ P5.rd)
    have HP5 := Lib.hid P5
    clear r5 c5 P5
    go_wp2_with fail
    refine NB.out.mono ?_
    rintro r w6 ⟨rfl, r6, c6⟩
    have FF := Lib.hid (Fin.out _ w6 HP5.out r6 c6)
    clear r6 c6
    go_wp2_with fail
    exact bp_panic rfl FF.out
  have c2 : (num m1).2.2 = 0 := by rw [← hz2]; exact b2
  have N2 := Lib.hid (fun (V : World) (e : Int) (h : Rd V B R L m1 e) => pnum_ok h c2 ha2 hm2)
  have hx2 : Nd.nx (Nd.nx (.ok b)).2 = (a2, .ok m2) := by rw [hx1]; show Nd.nx (.ok m1) = _; rw [Nd.nx_ok c2, ha2, hm2]
  have la2 : a2 < 268435456 := by rw [ha2]; exact num_lt m1
  clear c2 hz2 ha2 hm2 b2
  have Tst := Lib.hid (fun (V : World) (q : Bool) (hP : PS w V B R L nb H (a1 : Int) [] [] [] [] (.slice none 0 0) (.slice none 0 0) (.slice none 0 0) (.slice none 0 0) (.slice none 0 0) (.slice none 0 0) (.slice none 0 0) (.slice none 0 0) m2 0) => show V.frozen? ⟨tm, 0, none⟩ = false ∧ V.cell? ⟨tm, 0, none⟩ = some (.bool false) ∧ Blk (V.setCell ⟨tm, 0, none⟩ (.bool q)) tm 4 #[.bool q] ∧ Rd (V.setCell ⟨tm, 0, none⟩ (.bool q)) B R L m2 0 ∧ NX (V.setCell ⟨tm, 0, none⟩ (.bool q)) nb H 62 57 (a1 : Int) [] [] [] [] (.slice none 0 0) (.slice none 0 0) (.slice none 0 0) (.slice none 0 0) (.slice none 0 0) (.slice none 0 0) (.slice none 0 0) (.slice none 0 0) ∧ Chg (fun i => GX nb R L H i ∨ i = tm) w (V.setCell ⟨tm, 0, none⟩ (.bool q)) from by
    obtain ⟨c1, c2⟩ := Cw.out V hP.chg
    exact ⟨c2.frozen 0, c2.cell 0, c2.set_ 0 _, hP.rd.set_ htB 0 _, hP.nx.far (q := ⟨tm, 0, none⟩) hnt.symm (by simp [Value.ownBlock]) (by simp [Value.ownBlock]) (by simp [Value.ownBlock]) (by simp [Value.ownBlock]) _, (hP.chg.mono fun _ h => .inl h).setCell (p := ⟨tm, 0, none⟩) (.inl (.inr rfl)) _⟩)
  have Wi := Lib.hid (fun (V : World) (h : Chg (fun i => GX nb R L H i ∨ i = tm) w V) => show Chg (XD nb tm R L) w V from h.within fun i hi hg => by
    rcases hg with (h | h | h) | h
    · exact .inl (.inl h)
    · exact .inr h
    · omega
    · exact .inl (.inr h))
  by_cases hmany : 8 < a2
  · have hc : Nd.cls b = .many m2 := Nd.cls_many (s := m2) (by rw [hx2]) (by rw [hx2]; exact hmany)
    have z8 : decide ((8 : Int) < (a2 : Int)) = true := by rw [decide_eq_true_eq]; omega
    have z8' : decide (8 < a2) = true := by rw [decide_eq_true_eq]; exact hmany
    have Fin := Lib.hid (fun (V : World) (h1 : Blk V tm 4 #[.bool true]) (h2 : Rd V B R L m2 0) (h3 : Chg (fun i => GX nb R L H i ∨ i = tm) w V) => show DcQ w B R L nb tm b (.returned (.tuple #[])) V from by
      refine ⟨Wi.out V h3, ?_⟩
      rw [hc]
      exact ⟨rfl, h2, h1⟩)
    clear hc hmany hx1 hx2
    go_enter Try.func72, Try.ntmps72
    go_wp2_with fail
    refine N1.out.mono ?_
    rintro r w5 ⟨rfl, r5, c5⟩
    obtain ⟨f5, y5, P5⟩ := Stp.out w5 0 (HP0.out.num r5 c5)
    have N2 := Lib.hid (N2.out _ _ P5.rd)
    have HP5 := Lib.hid P5
    clear r5 c5 P5
    go_wp2_with fail
    refine N2.out.mono ?_
    rintro r w6 ⟨rfl, r6, c6⟩
    obtain ⟨f6, y6, t6, r7, -, c7⟩ := Tst.out w6 true (HP5.out.num r6 c6)
    have q6 : (w6.setCell ⟨tm, 0, none⟩ (.bool true)).cell? ⟨tm, 0, none⟩ = some (.bool true) := t6.cell 0
    have FF := Lib.hid (Fin.out _ t6 r7 c7)
    clear r6 c6 t6 r7 c7
    go_wp2_with fail
    refine bodyPost_end (results_none rfl _ _ _) rfl ?_
    exact FF.out
  have z8 : decide ((8 : Int) < (a2 : Int)) = false := by rw [decide_eq_false_iff_not]; omega
  have z8' : decide (8 < a2) = false := by rw [decide_eq_false_iff_not]; exact hmany
  have Hrest := Lib.hid (show Nd.cls b = match Nd.ents a1 a2 m2 with | .error e => .bad e | .ok (n, u) => .fine n u from by
    have := Nd.cls_rest (b := b) (s := m2) (by rw [hx2]) (by rw [hx2]; exact hmany)
    rw [hx2, hx1] at this
    exact this)
  have ha8 : a2 ≤ 8 := by omega
  clear hmany hx1 hx2
  go_enter Try.func72, Try.ntmps72
  go_wp2_with fail
  refine N1.out.mono ?_
  rintro r w5 ⟨rfl, r5, c5⟩
  obtain ⟨f5, y5, P5⟩ := Stp.out w5 0 (HP0.out.num r5 c5)
  have N2 := Lib.hid (N2.out _ _ P5.rd)
  have HP5 := Lib.hid P5
  clear r5 c5 P5
  go_wp2_with fail
  refine N2.out.mono ?_
  rintro r w6 ⟨rfl, r6, c6⟩
  obtain ⟨f6, y6, t6, r7, x7, c7⟩ := Tst.out w6 false (HP5.out.num r6 c6)
  have q6 : (w6.setCell ⟨tm, 0, none⟩ (.bool false)).cell? ⟨tm, 0, none⟩ = some (.bool false) := t6.cell 0
  obtain ⟨W7, hW7⟩ : ∃ W, w6.setCell ⟨tm, 0, none⟩ (.bool false) = W := ⟨_, rfl⟩
  rw [hW7] at q6 t6 r7 x7 c7
  have P7 := Lib.hid (show PS W7 W7 B R L nb H (a1 : Int) [] [] [] [] (.slice none 0 0) (.slice none 0 0) (.slice none 0 0) (.slice none 0 0) (.slice none 0 0) (.slice none 0 0) (.slice none 0 0) (.slice none 0 0) m2 0 from ⟨r7, x7, Chg.refl _ _, hnB, hRH, hLH⟩)
  have Ch := Lib.hid (fun (V : World) (h : Chg (GX nb R L H) W7 V) => show Chg (XD nb tm R L) w V ∧ Blk V tm 4 #[.bool false] from ⟨Wi.out V (c7.then_ (h.mono fun _ h => .inl h)), t6.keep (h.block tm t6.lt Ntm.out)⟩)
  clear r6 c6 t6 r7 x7 c7
  go_wp2_with fail
  clear f5 y5 f6 y6 q6 hW7
  go_loopw [14] (fun v wr => ∃ (i : Nat) (n : Nd.N) (t : List Nat) (v1 v2 v3 v4 : Value), v = .int .i64 (i : Int) ∧ i ≤ a2 ∧ Nd.ents a1 i m2 = .ok (n, t) ∧ PS W7 wr B R L nb H (a1 : Int) n.ks n.ps n.gs n.cs v1 v2 v3 v4 v1 v2 v3 v4 t 0) (fun v _ => a2 - (intOf v).toNat)
  case atStart => exact ⟨0, _, m2, _, _, _, _, rfl, Nat.zero_le _, rfl, P7.out⟩
  case round =>
    obtain ⟨i, n, t, v1, v2, v3, v4, rfl, hi, hE, hP⟩ := hrel
    have hI := (Nd.ents_i hE).1
    have hn : n = ⟨(a1 : Int), n.ks, n.ps, n.gs, n.cs⟩ := by rw [← hI.hh]
    by_cases him : i < a2
    · have z0 : decide ((i : Int) < (a2 : Int)) = true := by rw [decide_eq_true_eq]; omega
      have z0' : decide (i < a2) = true := by rw [decide_eq_true_eq]; exact him
      have NR := Lib.hid (rk_any n hn hP (by rw [hI.ks]; omega) (by rw [hI.ps]; split <;> omega) (by rw [hI.gs]; split <;> omega) (by rw [hI.cs]; split <;> omega))
      have HE := Lib.hid hE
      have Him := Lib.hid him
      clear hI hn hE hP him
      go_wp2_with fail
      refine NR.out.mono ?_
      rintro r w8 (⟨xs, t', q1, q2, q3, q4, hr, rfl, hP8⟩ | ⟨k, l', hr, hk, rfl, r8, c8⟩)
      · have R1 := Lib.hid (show Nd.ents a1 (i + 1) m2 = .ok (Nd.more n xs, t') from by rw [Nd.ents, HE.out]; dsimp only; rw [hr])
        have R2 := Lib.hid hP8
        clear hr hP8
        go_wp2_with fail
        go_roundw
        case rel => exact ⟨i + 1, Nd.more n xs, t', q1, q2, q3, q4, by go_num, by have := Him.out; omega, R1.out, R2.out⟩
        case measure => have := Him.out; simp [intOf]; omega
      · have FF := Lib.hid (show DcQ w B R L nb tm b (.panicked [{ v := .iface 34 (.int .i64 (k : Int)), recovered := false }]) w8 from by
          have e1 : Nd.ents a1 (i + 1) m2 = .error k := by rw [Nd.ents, HE.out]; dsimp only; rw [hr]
          have e2 := Nd.ents_mono e1 (m := a2) Him.out
          obtain ⟨k1, k2⟩ := Ch.out w8 c8
          refine ⟨k1, ?_⟩
          rw [Hrest.out, e2]
          exact ⟨hk, rfl, ⟨l', r8⟩, k2⟩)
        clear hr r8 c8 hk
        go_wp2_with fail
        exact bp_panic rfl FF.out
    · have z0 : decide ((i : Int) < (a2 : Int)) = false := by rw [decide_eq_false_iff_not]; omega
      have z0' : decide (i < a2) = false := by rw [decide_eq_false_iff_not]; exact him
      have FF := Lib.hid (show DcQ w B R L nb tm b (.returned (.tuple #[])) wr from by
        obtain ⟨k1, k2⟩ := Ch.out wr hP.chg
        refine ⟨k1, ?_⟩
        rw [show i = a2 by omega] at hE
        rw [Hrest.out, hE]
        refine ⟨rfl, hP.rd, k2, v1, v2, v3, v4, ?_⟩
        rw [hH]
        have := hP.nx
        rw [← hI.hh] at this
        exact this)
      clear hI hn hE hP him
      go_wp2_with fail
      refine bodyPost_end (results_none rfl _ _ _) rfl ?_
      exact FF.out
end Go.Proofs.Ytaainefdjbmekaa
