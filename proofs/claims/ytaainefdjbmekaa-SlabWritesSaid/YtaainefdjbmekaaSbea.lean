/- The program's Decode. -/
import Derived.Test.YtaainefdjbmekaaSbdh
import Derived.Test.YtaainefdjbmekaaSbdi
import Derived.Test.YtaainefdjbmekaaSbdj
namespace Go.Proofs.Ytaainefdjbmekaa
open Go.RowKit Vint
set_option maxRecDepth 8000 in
set_option maxHeartbeats 16000000 in
theorem pdec_any {w : World} {A : Option Addr} {c : Nat} {b : List Nat} (hsl : Sl w w.heap.size A (byts b)) (hcap : b.length ≤ c) (hA : A = none → c = 0) (hb : ∀ x ∈ b, x < 256) (hl : b.length ≤ 1000000) : Calls Try.prog 41 #[.slice A b.length c] w fun e w' => ∃ v, e = .returned (.tuple #[v, .int .i64 ((Nd.dec b).2 : Int)]) ∧ NdAt w' w'.heap.size v (Nd.dec b).1 ∧ Below w.heap.size w w' := by
  have hmf : ∀ (fn : Fn) (first cap : Array Value) (w : World), (Instr.makeFunc fn first cap).run Try.prog w = .ok (.func fn first cap) w := fun _ _ _ _ => rfl
  obtain ⟨rb, hrb⟩ : ∃ g, w.heap.size = g := ⟨_, rfl⟩
  obtain ⟨W1, hW1⟩ : ∃ W, w.alloc (.cells pdZ 62) = W := ⟨_, rfl⟩
  obtain ⟨W2, hW2⟩ : ∃ W, W1.alloc (.cells pdZ 62) = W := ⟨_, rfl⟩
  obtain ⟨W0, hW0⟩ : ∃ W, W2.alloc (.cells #[.bool false] 4) = W := ⟨_, rfl⟩
  obtain ⟨W3, hW3⟩ : ∃ W, W0.setCell ⟨rb + 2, 0, none⟩ (.bool false) = W := ⟨_, rfl⟩
  have s1 : W1.heap.size = rb + 1 := by rw [← hW1, ← hrb]; simp
  have s2 : W2.heap.size = rb + 2 := by rw [← hW2]; simp; omega
  have s0 : W0.heap.size = rb + 3 := by rw [← hW0]; simp; omega
  have s3 : W3.heap.size = rb + 3 := by rw [← hW3]; simpa using s0
  have hb0 : Below rb w W0 := by rw [← hW0, ← hW2, ← hW1, ← hrb]; exact (((Below.refl _ _).alloc (Nat.le_refl _) _).alloc (by simp) _).alloc (by simp; omega) _
  have hb3 : Below rb w W3 := by rw [← hW3]; exact hb0.setCell (p := ⟨rb + 2, 0, none⟩) (show rb ≤ rb + 2 by omega) _
  have a1 : Blk W0 rb 62 pdZ := by rw [← hW0, ← hW2]; exact (Blk.alloc (by rw [← hW1, ← hrb]; exact Blk.new _ _ _) _).alloc _
  have a2 : Blk W0 (rb + 1) 62 pdZ := by rw [← hW0]; exact Blk.alloc (by rw [← hW2, ← s1]; exact Blk.new _ _ _) _
  have a3 : Blk W0 (rb + 2) 4 #[.bool false] := by rw [← hW0, ← s2]; exact Blk.new _ _ _
  have f0 := a3.frozen 0
  have k0 : W0.cell? ⟨rb + 2, 0, none⟩ = some (.bool false) := a3.cell 0
  have b1 : Blk W3 rb 62 pdZ := by rw [← hW3]; exact a1.far (p := ⟨rb + 2, 0, none⟩) (show rb + 2 ≠ rb by omega) _
  have b2 : Blk W3 (rb + 1) 62 pdZ := by rw [← hW3]; exact a2.far (p := ⟨rb + 2, 0, none⟩) (show rb + 2 ≠ rb + 1 by omega) _
  have b3 : Blk W3 (rb + 2) 4 #[.bool false] := by rw [← hW3]; exact a3.set_ 0 _
  clear a1 a2 a3 hb0
  obtain ⟨R, hR⟩ : ∃ R, R = Nd.dec b := ⟨_, rfl⟩
  rw [← hR]
  have HR := Lib.hid hR
  have hs3 : Sl W3 rb A (byts b) := by rw [hrb] at hsl; exact hsl.below hb3
  obtain ⟨X, hX⟩ : ∃ X : Nat → Prop, X = fun i => i = rb + 1 ∨ i = rb + 2 := ⟨_, rfl⟩
  have hXl : ∀ i, X i → i < W3.heap.size := fun i hi => by rw [hX] at hi; rcases hi with h | h <;> omega
  have Dc := Lib.hid (fun (w1 : World) (Q : Nat) (h1 : Rd w1 (W3.heap.size + 1) Q (W3.heap.size + 1) b 0) (h2 : Below W3.heap.size W3 w1) => dc_any h1 (b2.keep (h2.block _ b2.lt)) (b3.keep (h2.block _ b3.lt)) (by omega) (by omega))
  have Aft := Lib.hid (fun (V : World) (h : Chg X W3 V) => show Blk V rb 62 pdZ ∧ Below rb w V from
    ⟨b1.keep (h.block rb b1.lt fun hi => by rw [hX] at hi; rcases hi with h | h <;> omega), hb3.trans (h.below (by omega) fun i hi => by rw [hX] at hi; rcases hi with h | h <;> omega)⟩)
  have He := Lib.hid (show ∀ (a : Value) (V : World), (callFunc 72 (#[a] ++ #[.pointer (some ⟨rb + 1, 0, none⟩), .pointer (some ⟨rb + 2, 0, none⟩)])).run Try.prog V = .ok (.enter 72 (#[a] ++ #[.pointer (some ⟨rb + 1, 0, none⟩), .pointer (some ⟨rb + 2, 0, none⟩)])) V from fun a V => by kernel_rfl)
  obtain ⟨kb, hkb⟩ : ∃ k, k = b.length := ⟨_, rfl⟩
  rw [hrb]
  cases hc : Nd.cls b with
  | bad k =>
    as_aux_lemma =>
      have hk0 : (k : Int) ≠ 0 := by
        intro hk
        have hk' : k = 0 := by omega
        subst hk'
        exact Nd.cls_nz hc rfl
      have hRR : R = (Nd.zero, k) := by rw [HR.out, Nd.dec_cls, hc]
      have NRd := Lib.hid (read_errx A c b W3 hs3 (by omega) hcap hA hb (by omega) 72 #[.pointer (some ⟨rb + 1, 0, none⟩), .pointer (some ⟨rb + 2, 0, none⟩)] He.out X hXl (k : Int) hk0 (fun V => Blk V (rb + 2) 4 #[.bool false]) (fun w1 Q h1 h2 => (Dc.out w1 Q h1 h2).mono fun e w2 ⟨g1, g2⟩ => by
        rw [hc] at g2
        rw [hX]
        exact ⟨g2.2.1, g2.2.2.1, g1, g2.2.2.2⟩))
      have z1 : ((k : Int) == 0) = false := by rw [beq_eq_false_iff_ne]; exact hk0
      have z2 : ((k : Int) != 0) = true := by rw [bne_iff_ne]; exact hk0
      have Fz := Lib.hid (fun (V : World) (hb : Below rb w V) => show ∃ v, Ending.returned (.tuple #[.agg pdZ, .int .i64 (k : Int)]) = Ending.returned (.tuple #[v, .int .i64 (R.2 : Int)]) ∧ NdAt V V.heap.size v R.1 ∧ Below rb w V from ⟨_, by rw [hRR] <;> rfl, by rw [hRR]; exact NdAt.zero _ _, hb⟩)
      clear hRR
      clear hk0
      rw [← hkb] at NRd ⊢
      clear hX hXl hs3 b1 b2 b3 hb3 hsl hcap hA hb hl hR Dc He hc hkb
      go_enter Try.func41, Try.ntmps41
      go_upto_region 7 with (go_at_call 71; (with_reducible refine NRd.out.mono ?_); rintro e w8 ⟨rfl, V8, q8, c8, d8⟩; obtain ⟨rbk, hbl⟩ := Aft.out w8 d8; have x8 : w8.cell? ⟨rb + 2, 0, none⟩ = some (.bool false) := (q8.keep (c8.block _ q8.lt (by omega))).cell 0; clear c8 q8 d8)
      obtain ⟨s1', s2', s3', s4', s5', p1, p2, p3, p4, p5, ⟨f0, f1, f2, f3, f4⟩, ⟨u0, u1, u2, u3, u4⟩, B5, b5, -⟩ := st5 rbk (Nat.le_refl rb) hbl (.int .i64 0) (.slice none 0 0) (.slice none 0 0) (.slice none 0 0) (.slice none 0 0)
      have t0 := B5.cell 0
      have t1 := B5.cell 1
      have t2 := B5.cell 2
      have t3 := B5.cell 3
      have t4 := B5.cell 4
      have Fin := Lib.hid (Fz.out s5' b5)
      clear rbk hbl B5 b5
      go_wp2_with fail
      refine bodyPost_ret (v := .tuple #[.agg pdZ, .int .i64 (k : Int)]) ?_ rfl Fin.out
      simp [results, Try.results41]
      go_simp
  | many s =>
    as_aux_lemma =>
      have hRR : R = (Nd.zero, 4) := by rw [HR.out, Nd.dec_cls, hc]
      obtain ⟨t, ht⟩ : ∃ t, decide (0 < s.length) = t := ⟨_, rfl⟩
      obtain ⟨z, hz⟩ : ∃ z : Int, z = if t = true then 3 else 0 := ⟨_, rfl⟩
      have NRd := Lib.hid (read_ret A c b W3 hs3 (by omega) hcap hA hb (by omega) 72 #[.pointer (some ⟨rb + 1, 0, none⟩), .pointer (some ⟨rb + 2, 0, none⟩)] He.out X hXl s (fun V => Blk V (rb + 2) 4 #[.bool true]) (fun w1 Q h1 h2 => (Dc.out w1 Q h1 h2).mono fun e w2 ⟨g1, g2⟩ => by
        rw [hc] at g2
        rw [hX]
        exact ⟨g2.1, g2.2.1, g1, g2.2.2⟩) t z ht hz)
      have Fz := Lib.hid (fun (V : World) (hb : Below rb w V) => show ∃ v, Ending.returned (.tuple #[.agg pdZ, .int .i64 4]) = Ending.returned (.tuple #[v, .int .i64 (R.2 : Int)]) ∧ NdAt V V.heap.size v R.1 ∧ Below rb w V from ⟨_, by rw [hRR] <;> rfl, by rw [hRR]; exact NdAt.zero _ _, hb⟩)
      clear hRR
      clear ht hz
      rw [← hkb] at NRd ⊢
      clear hX hXl hs3 b1 b2 b3 hb3 hsl hcap hA hb hl hR Dc He hc hkb
      go_enter Try.func41, Try.ntmps41
      go_upto_region 7 with (go_at_call 71; (with_reducible refine NRd.out.mono ?_); rintro e w8 ⟨rfl, V8, q8, c8, d8⟩; obtain ⟨rbk, hbl⟩ := Aft.out w8 d8; have x8 : w8.cell? ⟨rb + 2, 0, none⟩ = some (.bool true) := (q8.keep (c8.block _ q8.lt (by omega))).cell 0; clear c8 q8 d8)
      obtain ⟨s1', s2', s3', s4', s5', p1, p2, p3, p4, p5, ⟨f0, f1, f2, f3, f4⟩, ⟨u0, u1, u2, u3, u4⟩, B5, b5, -⟩ := st5 rbk (Nat.le_refl rb) hbl (.int .i64 0) (.slice none 0 0) (.slice none 0 0) (.slice none 0 0) (.slice none 0 0)
      have t0 := B5.cell 0
      have t1 := B5.cell 1
      have t2 := B5.cell 2
      have t3 := B5.cell 3
      have t4 := B5.cell 4
      have Fin := Lib.hid (Fz.out s5' b5)
      clear rbk hbl B5 b5
      go_wp2_with fail
      refine bodyPost_ret (v := .tuple #[.agg pdZ, .int .i64 4]) ?_ rfl Fin.out
      simp [results, Try.results41]
      go_simp
  | fine n u =>
    by_cases hu : u ≠ []
    · as_aux_lemma =>
        have hRR : R = (Nd.zero, 3) := by rw [HR.out]; exact Nd.dec_over hc hu
        have hul : 0 < u.length := List.length_pos_iff.2 hu
        have NRd := Lib.hid (read_ret A c b W3 hs3 (by omega) hcap hA hb (by omega) 72 #[.pointer (some ⟨rb + 1, 0, none⟩), .pointer (some ⟨rb + 2, 0, none⟩)] He.out X hXl u (fun V => Blk V (rb + 2) 4 #[.bool false] ∧ ∃ H v1 v2 v3 v4, W3.heap.size < H ∧ NX V (rb + 1) H 62 57 n.h n.ks n.ps n.gs n.cs v1 v2 v3 v4 v1 v2 v3 v4) (fun w1 Q h1 h2 => (Dc.out w1 Q h1 h2).mono fun e w2 ⟨g1, g2⟩ => by
          rw [hc] at g2
          rw [hX]
          exact ⟨g2.1, g2.2.1, g1, g2.2.2.1, w1.heap.size, g2.2.2.2.choose, g2.2.2.2.choose_spec.choose, g2.2.2.2.choose_spec.choose_spec.choose, g2.2.2.2.choose_spec.choose_spec.choose_spec.choose, by have := h1.last.lt; omega, g2.2.2.2.choose_spec.choose_spec.choose_spec.choose_spec⟩) true 3 (by rw [decide_eq_true_eq]; exact hul) rfl)
        have Fz := Lib.hid (fun (V : World) (hb : Below rb w V) => show ∃ v, Ending.returned (.tuple #[.agg pdZ, .int .i64 3]) = Ending.returned (.tuple #[v, .int .i64 (R.2 : Int)]) ∧ NdAt V V.heap.size v R.1 ∧ Below rb w V from ⟨_, by rw [hRR] <;> rfl, by rw [hRR]; exact NdAt.zero _ _, hb⟩)
        clear hRR
        clear hu hul
        rw [← hkb] at NRd ⊢
        clear hX hXl hs3 b1 b2 b3 hb3 hsl hcap hA hb hl hR Dc He hc hkb
        go_enter Try.func41, Try.ntmps41
        go_upto_region 7 with (go_at_call 71; (with_reducible refine NRd.out.mono ?_); rintro e w8 ⟨rfl, V8, q8, c8, d8⟩; obtain ⟨rbk, hbl⟩ := Aft.out w8 d8; have x8 : w8.cell? ⟨rb + 2, 0, none⟩ = some (.bool false) := (q8.1.keep (c8.block _ q8.1.lt (by omega))).cell 0; clear c8 q8 d8)
        obtain ⟨s1', s2', s3', s4', s5', p1, p2, p3, p4, p5, ⟨f0, f1, f2, f3, f4⟩, ⟨u0, u1, u2, u3, u4⟩, B5, b5, -⟩ := st5 rbk (Nat.le_refl rb) hbl (.int .i64 0) (.slice none 0 0) (.slice none 0 0) (.slice none 0 0) (.slice none 0 0)
        have t0 := B5.cell 0
        have t1 := B5.cell 1
        have t2 := B5.cell 2
        have t3 := B5.cell 3
        have t4 := B5.cell 4
        have Fin := Lib.hid (Fz.out s5' b5)
        clear rbk hbl B5 b5
        go_wp2_with fail
        refine bodyPost_ret (v := .tuple #[.agg pdZ, .int .i64 3]) ?_ rfl Fin.out
        simp [results, Try.results41]
        go_simp
    · have hRq : (Nd.Ok n → R = (n, 0)) ∧ (¬ Nd.Ok n → R = (Nd.zero, 4)) := ⟨fun h => by rw [HR.out]; exact Nd.dec_good hc hu h, fun h => by rw [HR.out]; exact Nd.dec_wrong hc hu h⟩
      have hu0 : u = [] := by simpa using hu
      have NRd := Lib.hid (read_ret A c b W3 hs3 (by omega) hcap hA hb (by omega) 72 #[.pointer (some ⟨rb + 1, 0, none⟩), .pointer (some ⟨rb + 2, 0, none⟩)] He.out X hXl u (fun V => Blk V (rb + 2) 4 #[.bool false] ∧ ∃ H v1 v2 v3 v4, W3.heap.size < H ∧ NX V (rb + 1) H 62 57 n.h n.ks n.ps n.gs n.cs v1 v2 v3 v4 v1 v2 v3 v4) (fun w1 Q h1 h2 => (Dc.out w1 Q h1 h2).mono fun e w2 ⟨g1, g2⟩ => by
        rw [hc] at g2
        rw [hX]
        exact ⟨g2.1, g2.2.1, g1, g2.2.2.1, w1.heap.size, g2.2.2.2.choose, g2.2.2.2.choose_spec.choose, g2.2.2.2.choose_spec.choose_spec.choose, g2.2.2.2.choose_spec.choose_spec.choose_spec.choose, by have := h1.last.lt; omega, g2.2.2.2.choose_spec.choose_spec.choose_spec.choose_spec⟩) false 0 (by rw [hu0]; rfl) rfl)
      clear hu hu0
      by_cases hok : Nd.Ok n
      · as_aux_lemma =>
        have hRR : R = (n, 0) := hRq.1 hok
        have NM0 := Lib.hid (fun (V : World) (v : Value) (h : NdAt V V.heap.size v ⟨n.h, n.ks, n.ps, n.gs, n.cs⟩) => may_any h true ⟨fun _ => hok, fun _ => rfl⟩)
        have Fz := Lib.hid (fun (V : World) (H : Nat) (v1 v2 v3 v4 : Value) (hx : NX V (rb + 1) H 62 57 n.h n.ks n.ps n.gs n.cs v1 v2 v3 v4 v1 v2 v3 v4) (hb : Below rb w V) => show ∃ v, Ending.returned (.tuple #[.agg #[.int .i64 n.h, v1, v2, v3, v4], .int .i64 0]) = Ending.returned (.tuple #[v, .int .i64 (R.2 : Int)]) ∧ NdAt V V.heap.size v R.1 ∧ Below rb w V from ⟨_, by rw [hRR] <;> rfl, by rw [hRR]; exact hx.nd, hb⟩)
        clear hRR hRq hok
        rw [← hkb] at NRd ⊢
        clear hX hXl hs3 b1 b2 b3 hb3 hsl hcap hA hb hl hR Dc He hc hkb
        go_enter Try.func41, Try.ntmps41
        go_upto_region 8 with (first | (go_at_call 71; (with_reducible refine NRd.out.mono ?_); rintro e w8 ⟨rfl, V8, q8, c8, d8⟩; obtain ⟨rbk, hbl⟩ := Aft.out w8 d8; have x8 : w8.cell? ⟨rb + 2, 0, none⟩ = some (.bool false) := (q8.1.keep (c8.block _ q8.1.lt (by omega))).cell 0; obtain ⟨-, H, v1, v2, v3, v4, hH, hx0⟩ := q8; have hx := hx0.chg c8 (fun i hi => by have e' : i = W3.heap.size := hi; omega); have NM := Lib.hid (NM0.out w8 _ hx.nd); have HX := Lib.hid hx; have Rbk := Lib.hid rbk; have Hbl := Lib.hid hbl; have j0 := hx.blk.cell 0; have j1 := hx.blk.cell 1; have j2 := hx.blk.cell 2; have j3 := hx.blk.cell 3; have j4 := hx.blk.cell 4; clear hx hx0 hH rbk hbl; clear c8 d8) | (go_at_call 58; (with_reducible refine NM.out.mono ?_); rintro e w9 ⟨rfl, h9⟩; have B9 := Lib.hid h9; clear h9))
        have hx9 := HX.out.below B9.out
        have rbk9 := Rbk.out.keep (B9.out.block rb Rbk.out.lt)
        have hbl9 := Hbl.out.trans (B9.out.mono (Nat.le_of_lt Rbk.out.lt))
        have hrH : rb < H := by have := HX.out.hx; omega
        obtain ⟨s1', s2', s3', s4', s5', p1, p2, p3, p4, p5, ⟨f0, f1, f2, f3, f4⟩, ⟨u0, u1, u2, u3, u4⟩, B5, b5, far5⟩ := st5 rbk9 (Nat.le_refl rb) hbl9 (.int .i64 n.h) v1 v2 v3 v4
        have hx10 := hx9.keep (w' := s5') (fun g _ hg => far5 g (by omega)) (by rw [← p5, ← p4, ← p3, ← p2, ← p1]; simp [World.setCell])
        have Fin := Lib.hid (Fz.out s5' H v1 v2 v3 v4 hx10 b5)
        have l0 := hx9.blk.cell 0
        have l1 := hx9.blk.cell 1
        have l2 := hx9.blk.cell 2
        have l3 := hx9.blk.cell 3
        have l4 := hx9.blk.cell 4
        have t0 := B5.cell 0
        have t1 := B5.cell 1
        have t2 := B5.cell 2
        have t3 := B5.cell 3
        have t4 := B5.cell 4
        obtain ⟨D1, d1, e1⟩ := own_slice HX.out.o1
        obtain ⟨D2, d2, e2⟩ := own_slice HX.out.o2
        obtain ⟨D3, d3, e3⟩ := own_slice HX.out.o3
        obtain ⟨D4, d4, e4⟩ := own_slice HX.out.o4
        subst e1 e2 e3 e4
        clear rbk9 hbl9 hx9 hx10 B5 b5 far5
        generalize n.ks.length = k1 at *
        generalize n.ps.length = k2 at *
        generalize n.gs.length = k3 at *
        generalize n.cs.length = k4 at *
        go_wp2_with fail
        refine bodyPost_ret (v := .tuple #[.agg #[.int .i64 n.h, .slice D1 k1 d1, .slice D2 k2 d2, .slice D3 k3 d3, .slice D4 k4 d4], .int .i64 0]) ?_ rfl Fin.out
        simp [results, Try.results41]
        go_simp
      · as_aux_lemma =>
        have hRR : R = (Nd.zero, 4) := hRq.2 hok
        have NM0 := Lib.hid (fun (V : World) (v : Value) (h : NdAt V V.heap.size v ⟨n.h, n.ks, n.ps, n.gs, n.cs⟩) => may_any h false ⟨(fun h => by cases h), fun h => absurd h hok⟩)
        have Fz := Lib.hid (fun (V : World) (hb : Below rb w V) => show ∃ v, Ending.returned (.tuple #[.agg pdZ, .int .i64 4]) = Ending.returned (.tuple #[v, .int .i64 (R.2 : Int)]) ∧ NdAt V V.heap.size v R.1 ∧ Below rb w V from ⟨_, by rw [hRR] <;> rfl, by rw [hRR]; exact NdAt.zero _ _, hb⟩)
        clear hRR
        clear hRq hok
        rw [← hkb] at NRd ⊢
        clear hX hXl hs3 b1 b2 b3 hb3 hsl hcap hA hb hl hR Dc He hc hkb
        go_enter Try.func41, Try.ntmps41
        go_upto_region 7 with (first | (go_at_call 71; (with_reducible refine NRd.out.mono ?_); rintro e w8 ⟨rfl, V8, q8, c8, d8⟩; obtain ⟨rbk, hbl⟩ := Aft.out w8 d8; have x8 : w8.cell? ⟨rb + 2, 0, none⟩ = some (.bool false) := (q8.1.keep (c8.block _ q8.1.lt (by omega))).cell 0; obtain ⟨-, H, v1, v2, v3, v4, hH, hx0⟩ := q8; have hx := hx0.chg c8 (fun i hi => by have e' : i = W3.heap.size := hi; omega); have NM := Lib.hid (NM0.out w8 _ hx.nd); have HX := Lib.hid hx; have Rbk := Lib.hid rbk; have Hbl := Lib.hid hbl; have j0 := hx.blk.cell 0; have j1 := hx.blk.cell 1; have j2 := hx.blk.cell 2; have j3 := hx.blk.cell 3; have j4 := hx.blk.cell 4; clear hx hx0 hH rbk hbl; clear c8 d8) | (go_at_call 58; (with_reducible refine NM.out.mono ?_); rintro e w9 ⟨rfl, h9⟩; have B9 := Lib.hid h9; clear h9))
        have rbk := Rbk.out.keep (B9.out.block rb Rbk.out.lt)
        have hbl := Hbl.out.trans (B9.out.mono (Nat.le_of_lt Rbk.out.lt))
        obtain ⟨s1', s2', s3', s4', s5', p1, p2, p3, p4, p5, ⟨f0, f1, f2, f3, f4⟩, ⟨u0, u1, u2, u3, u4⟩, B5, b5, -⟩ := st5 rbk (Nat.le_refl rb) hbl (.int .i64 0) (.slice none 0 0) (.slice none 0 0) (.slice none 0 0) (.slice none 0 0)
        have t0 := B5.cell 0
        have t1 := B5.cell 1
        have t2 := B5.cell 2
        have t3 := B5.cell 3
        have t4 := B5.cell 4
        have Fin := Lib.hid (Fz.out s5' b5)
        clear rbk hbl B5 b5
        go_wp2_with fail
        refine bodyPost_ret (v := .tuple #[.agg pdZ, .int .i64 4]) ?_ rfl Fin.out
        simp [results, Try.results41]
        go_simp
end Go.Proofs.Ytaainefdjbmekaa
