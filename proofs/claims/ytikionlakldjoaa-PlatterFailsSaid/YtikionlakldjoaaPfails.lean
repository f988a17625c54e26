/- PlatterFails, walked. -/
import Derived.Test.YtikionlakldjoaaPawake
import Derived.Test.YtikionlakldjoaaPfl
namespace Go.Proofs.Ytikionlakldjoaa
open Go.RowKit Go.Maps

theorem at_fail1 {B : Nat} {w : World} {p : Nat} {st : PSt} {ks : List (Nat × List Nat)} (h : At B w p st ks) (hs : Small st) (k t : Int) (hk : (Lit.int .i64 k).wf = true) (ht : (Lit.int .i64 t).wf = true) :
    Calls Try.prog 16 #[.pointer (some ⟨p, 0, none⟩), .slice (some ⟨w.heap.size, 0, none⟩) 1 1] (w.alloc (.cells #[.int .i64 k, .int .i64 t] 58)) fun e w' => e = .returned (.tuple #[]) ∧ At B w' p (st.plans [(k, t)]) ks ∧ Below B w w' := by
  obtain ⟨hB, F, hd, hF, hks⟩ := h
  have hlt := hd.lt
  have hb : Below w.heap.size w (w.alloc (.cells #[.int .i64 k, .int .i64 t] 58)) := (Below.refl _ _).alloc (Nat.le_refl _) _
  have hd1 := hd.keep (w' := w.alloc (.cells #[.int .i64 k, .int .i64 t] 58)) hb.size (fun b hb' => hb.block b (hlt b hb'))
  have hblk : Blk (w.alloc (.cells #[.int .i64 k, .int .i64 t] 58)) w.heap.size 58 #[.int .i64 k, .int .i64 t] := Blk.new w _ _
  have hks1 : ∀ x ∈ ks, ∃ t', Blk (w.alloc (.cells #[.int .i64 k, .int .i64 t] 58)) x.1 t' (byts x.2).toArray ∧ ¬ F x.1 := fun x hx => by
    obtain ⟨t', h1, h2⟩ := hks x hx
    exact ⟨t', h1.alloc _, h2⟩
  refine (dfail_any p st F _ hd1 hs.o (some ⟨w.heap.size, 0, none⟩) 1 [(k, t)] (by show 1 < 1000000; decide) (fun f hf => by rw [List.mem_singleton] at hf; subst hf; exact ⟨hk, ht⟩) (.inr ⟨w.heap.size, 0, rfl, hblk.lt, fun i hi => by
    rw [Nat.zero_add, hblk.cell i]
    have : i = 0 ∨ i = 1 := by simp [planCells] at hi; omega
    rcases this with rfl | rfl <;> rfl⟩) (fun b o e hf => by injection e with e; injection e with e _; subst e; have := hlt _ hf; omega)).mono ?_
  rintro e w' ⟨rfl, hd', hc'⟩
  obtain ⟨h1, h2⟩ := at_chg (Nat.le_trans hB hb.size) hF hks1 hd' ext_new hc'
  exact ⟨rfl, h1, (hb.mono hB).trans h2⟩

theorem mod_kind (op : Nat) : ∃ k : Nat, (1 : Int) + (op : Int) % 3 = (k : Int) ∧ (k = 1 ∨ k = 2 ∨ k = 3) :=
  ⟨1 + op % 3, by omega, by omega⟩
theorem mod_when (at_ : Nat) : ∃ t : Nat, (1 : Int) + (at_ : Int) % 8 = (t : Int) ∧ 1 ≤ t ∧ t ≤ 8 :=
  ⟨1 + at_ % 8, by omega, by omega, by omega⟩

set_option maxRecDepth 10000 in
set_option maxHeartbeats 4000000 in
theorem fails_any (op at_ : Nat) (ho : op < 256) (ha : at_ < 256) (w : World) : Calls Try.prog 6 #[.int .u8 (op : Int), .int .u8 (at_ : Int)] w fun e w' => e = .returned (.bool true) ∧ Below w.heap.size w w' := by
  obtain ⟨k, hk, hk3⟩ := mod_kind op
  obtain ⟨t, ht, ht8⟩ := mod_when at_
  have M0 := mild_new 64
  go_enter Try.func6, Try.ntmps6
  go_wp2_with fail
  refine (pawake _).mono ?_
  rintro e wa ⟨rfl, Ba⟩
  have hle := Ba.size
  go_wp2_with fail
  refine (at_new 64 (by omega) (by omega) _).mono ?_
  rintro e w1 ⟨rfl, A1, B1⟩
  go_wp2_with fail
  refine (at_fail1 A1 (M0.small (by omega) (by omega)) k t (wf_i64 (by omega) (by omega)) (wf_i64 (by omega) (by omega))).mono ?_
  rintro e w2 ⟨rfl, A2, B2⟩
  have Bw := (Ba.trans (B1.mono hle)).trans (B2.mono hle)
  clear A1 B1 B2 Ba M0 hk ht
  go_wp2_with fail
  go_loopw [9] (fun v wr => ∃ (i n : Nat) (st : PSt), n = i + 1 ∧ i ≤ 9 ∧ v = .int .i64 (n : Int) ∧ Rnd k t i st ∧ At wa.heap.size wr (wa.heap.size + 1) st [] ∧ Below w.heap.size w wr) (fun v _ => 10 - (intOf v).toNat)
  case atStart => exact ⟨0, 1, _, rfl, by omega, rfl, rnd_new k t, A2, Bw⟩
  case round =>
    obtain ⟨i, n, st, hn, hi, rfl, h, hA, hbr⟩ := hrel
    clear A2 Bw
    by_cases hi9 : i < 9
    · have hn9 : n ≤ 9 := by omega
      have q0 : decide ((n : Int) ≤ 9) = true := by simp; omega
      have hn1 : 1 ≤ n := by omega
      obtain ⟨cl, hclv⟩ : ∃ cl, st.cache.length = cl := ⟨_, rfl⟩
      have hcb : cl ≤ 9 := by have := h.c; omega
      clear hi hi9
      rcases hk3 with rfl | rfl | rfl
      · by_cases hnt : t = i + 1
        · have e1 : st.write (n : Int) (all64 n) = (0, rw1 st n false) := by have := rnd_write (wh := false) h (by omega) (by simp [hnt]); rw [← hn] at this; exact this
          have e2 : (rw1 st n false).read (n : Int) = (6, []) := by have := rnd_read (wh := false) (rh := true) h (by omega) (by simp [hnt]); rw [← hn] at this; exact this
          have e3 : ((rw1 st n false).count 1).sync = (0, rw3 st n false false) := by have := rnd_sync (wh := false) (sh := false) h (by simp [hnt]); rw [← hn] at this; exact this
          have hsm := rw1_small (wh := false) h (by omega)
          have hnx := rnd_next (wh := false) (sh := false) h
          have hcl := rw1_cache (st := st) (i := i) (wh := false)
          rw [← hn] at hsm hnx hcl
          have c0 : ((st.cache.length : Nat) : Int) = (cl : Int) := by rw [hclv]
          have c1 : (((rw1 st n false).cache.length : Nat) : Int) = (cl : Int) + 1 := by rw [hcl, hclv]; simp
          have c2 : ((((rw1 st n false).count 1).cache.length : Nat) : Int) = (cl : Int) + 1 := c1
          have c3 : (((rw3 st n false false).cache.length : Nat) : Int) = 0 := by rw [hnx.2]; rfl
          have hnt' : ((n : Int) == (t : Int)) = true := by simp; omega
          have Hs0 := Lib.hid (h.small (by omega))
          have Hsm := Lib.hid hsm
          have Hnx := Lib.hid hnx
          have E1 := Lib.hid e1
          have E2 := Lib.hid e2
          have E3 := Lib.hid e3
          have HA := Lib.hid hA
          have Hb := Lib.hid hbr
          have C0 := Lib.hid c0
          have C1 := Lib.hid c1
          have C2 := Lib.hid c2
          have C3 := Lib.hid c3
          clear e1 e2 e3 hsm hnx hcl h hA hbr hclv c0 c1 c2 c3 hnt hn
          go_wp2_with (go_at_call 15; (with_reducible refine (at_cached HA.out).mono ?_); rintro e w' ⟨rfl, rfl⟩; rw [C0.out])
          refine (at_full HA.out n).mono ?_
          rintro e w2 ⟨rfl, A2, B2⟩
          go_wp2_with fail
          refine (Go.Proofs.Ytikionlakldjoaa.wr A2 Hs0.out (List.mem_cons_self ..) (all64_length n) (all64_bytes (by omega)) E1.out).mono ?_
          rintro e w3 ⟨rfl, A3, B3⟩
          go_wp2_with (go_at_call 15; (with_reducible refine (at_cached A3).mono ?_); rintro e w' ⟨rfl, rfl⟩; rw [C1.out])
          refine (rd_no A3 Hsm.out.1 E2.out).mono ?_
          rintro e w4 ⟨rfl, A4, B4⟩
          have AE := Lib.hid A4.drew
          go_wp2_with fail
          go_region
          go_wp2_with (go_at_call 15; (with_reducible refine (at_cached AE.out).mono ?_); rintro e w' ⟨rfl, rfl⟩; rw [C2.out])
          refine (sy AE.out Hsm.out.2 E3.out).mono ?_
          rintro e w5 ⟨rfl, A5, B5⟩
          go_wp2_with (go_at_call 15; (with_reducible refine (at_cached A5).mono ?_); rintro e w' ⟨rfl, rfl⟩; rw [C3.out])
          refine ⟨?ex, ?measure⟩
          case ex =>
            repeat' apply Exists.intro
            exact ⟨⟨n, n + 1, _, rfl, by omega, by go_num, Hnx.out.1, A5.less (fun x hx => by simp at hx), ((((Hb.out.trans (B2.mono hle)).trans (B3.mono hle)).trans (B4.mono hle)).drew).trans (B5.mono hle)⟩, rfl⟩
          case measure => simp [intOf]; omega
        · have e1 : st.write (n : Int) (all64 n) = (0, rw1 st n false) := by have := rnd_write (wh := false) h (by omega) (by simp [hnt]); rw [← hn] at this; exact this
          have e2 : (rw1 st n false).read (n : Int) = (0, (all64 n)) := by have := rnd_read (wh := false) (rh := false) h (by omega) (by simp [hnt]); rw [← hn] at this; exact this
          have e3 : ((rw1 st n false).count 1).sync = (0, rw3 st n false false) := by have := rnd_sync (wh := false) (sh := false) h (by simp [hnt]); rw [← hn] at this; exact this
          have hsm := rw1_small (wh := false) h (by omega)
          have hnx := rnd_next (wh := false) (sh := false) h
          have hcl := rw1_cache (st := st) (i := i) (wh := false)
          rw [← hn] at hsm hnx hcl
          have c0 : ((st.cache.length : Nat) : Int) = (cl : Int) := by rw [hclv]
          have c1 : (((rw1 st n false).cache.length : Nat) : Int) = (cl : Int) + 1 := by rw [hcl, hclv]; simp
          have c2 : ((((rw1 st n false).count 1).cache.length : Nat) : Int) = (cl : Int) + 1 := c1
          have c3 : (((rw3 st n false false).cache.length : Nat) : Int) = 0 := by rw [hnx.2]; rfl
          have hnt' : ((n : Int) == (t : Int)) = false := by simp; omega
          have Hs0 := Lib.hid (h.small (by omega))
          have Hsm := Lib.hid hsm
          have Hnx := Lib.hid hnx
          have E1 := Lib.hid e1
          have E2 := Lib.hid e2
          have E3 := Lib.hid e3
          have HA := Lib.hid hA
          have Hb := Lib.hid hbr
          have C0 := Lib.hid c0
          have C1 := Lib.hid c1
          have C2 := Lib.hid c2
          have C3 := Lib.hid c3
          clear e1 e2 e3 hsm hnx hcl h hA hbr hclv c0 c1 c2 c3 hnt hn
          go_wp2_with (go_at_call 15; (with_reducible refine (at_cached HA.out).mono ?_); rintro e w' ⟨rfl, rfl⟩; rw [C0.out])
          refine (at_full HA.out n).mono ?_
          rintro e w2 ⟨rfl, A2, B2⟩
          go_wp2_with fail
          refine (Go.Proofs.Ytikionlakldjoaa.wr A2 Hs0.out (List.mem_cons_self ..) (all64_length n) (all64_bytes (by omega)) E1.out).mono ?_
          rintro e w3 ⟨rfl, A3, B3⟩
          go_wp2_with (go_at_call 15; (with_reducible refine (at_cached A3).mono ?_); rintro e w' ⟨rfl, rfl⟩; rw [C1.out])
          refine (rd A3 Hsm.out.1 E2.out (all64_length n)).mono ?_
          rintro e w4 ⟨m4, rfl, A4, B4⟩
          have A0 := Lib.hid A4.drew
          have k1 := at_conv A0.out (m := m4) (List.mem_cons_self ..) (all64_length n)
          obtain ⟨s1, hs1⟩ : ∃ s, str (all64 n) = s := ⟨_, rfl⟩
          rw [hs1] at k1
          have Hs1 := Lib.hid hs1
          clear hs1
          go_wp2_with fail
          go_region_held_law (fun w' => (convert 49 9 (.slice (some ⟨m4, 0, none⟩) 64 64)).run Try.prog w' = .ok (.string s1) w') (first | exact k1 | exact k4) (first
            | (go_at_call 19; refine (at_full A0.out n).mono ?_; rintro e w11 ⟨rfl, AX, BX⟩; simp only [World.size_drew] at AX; have k3 := at_conv AX (m := _) (List.mem_cons_self ..) (all64_length _); have k4 := at_conv AX (m := m4) (List.mem_cons_of_mem _ (List.mem_cons_self ..)) (all64_length n); rw [Hs1.out] at k3 k4; have AE := Lib.hid AX; clear AX))
          go_wp2_with (go_at_call 15; (with_reducible refine (at_cached AE.out).mono ?_); rintro e w' ⟨rfl, rfl⟩; rw [C2.out])
          refine (sy AE.out Hsm.out.2 E3.out).mono ?_
          rintro e w5 ⟨rfl, A5, B5⟩
          go_wp2_with (go_at_call 15; (with_reducible refine (at_cached A5).mono ?_); rintro e w' ⟨rfl, rfl⟩; rw [C3.out])
          refine ⟨?ex, ?measure⟩
          case ex =>
            repeat' apply Exists.intro
            exact ⟨⟨n, n + 1, _, rfl, by omega, by go_num, Hnx.out.1, A5.less (fun x hx => by simp at hx), ((((Hb.out.trans (B2.mono hle)).trans (B3.mono hle)).trans (B4.mono hle)).drew.trans (BX.mono hle)).trans (B5.mono hle)⟩, rfl⟩
          case measure => simp [intOf]; omega
      · by_cases hnt : t = i + 1
        · have e1 : st.write (n : Int) (all64 n) = (6, rw1 st n true) := by have := rnd_write (wh := true) h (by omega) (by simp [hnt]); rw [← hn] at this; exact this
          have e2 : (rw1 st n true).read (n : Int) = (0, zero64) := by have := rnd_read (wh := true) (rh := false) h (by omega) (by simp [hnt]); rw [← hn] at this; exact this
          have e3 : ((rw1 st n true).count 1).sync = (0, rw3 st n true false) := by have := rnd_sync (wh := true) (sh := false) h (by simp [hnt]); rw [← hn] at this; exact this
          have hsm := rw1_small (wh := true) h (by omega)
          have hnx := rnd_next (wh := true) (sh := false) h
          have hcl := rw1_cache (st := st) (i := i) (wh := true)
          rw [← hn] at hsm hnx hcl
          have c0 : ((st.cache.length : Nat) : Int) = (cl : Int) := by rw [hclv]
          have c1 : (((rw1 st n true).cache.length : Nat) : Int) = (cl : Int) := by rw [hcl, hclv]; simp
          have c2 : ((((rw1 st n true).count 1).cache.length : Nat) : Int) = (cl : Int) := c1
          have c3 : (((rw3 st n true false).cache.length : Nat) : Int) = 0 := by rw [hnx.2]; rfl
          have hnt' : ((n : Int) == (t : Int)) = true := by simp; omega
          have Hs0 := Lib.hid (h.small (by omega))
          have Hsm := Lib.hid hsm
          have Hnx := Lib.hid hnx
          have E1 := Lib.hid e1
          have E2 := Lib.hid e2
          have E3 := Lib.hid e3
          have HA := Lib.hid hA
          have Hb := Lib.hid hbr
          have C0 := Lib.hid c0
          have C1 := Lib.hid c1
          have C2 := Lib.hid c2
          have C3 := Lib.hid c3
          clear e1 e2 e3 hsm hnx hcl h hA hbr hclv c0 c1 c2 c3 hnt hn
          go_wp2_with (go_at_call 15; (with_reducible refine (at_cached HA.out).mono ?_); rintro e w' ⟨rfl, rfl⟩; rw [C0.out])
          refine (at_full HA.out n).mono ?_
          rintro e w2 ⟨rfl, A2, B2⟩
          go_wp2_with fail
          refine (Go.Proofs.Ytikionlakldjoaa.wr A2 Hs0.out (List.mem_cons_self ..) (all64_length n) (all64_bytes (by omega)) E1.out).mono ?_
          rintro e w3 ⟨rfl, A3, B3⟩
          go_wp2_with (go_at_call 15; (with_reducible refine (at_cached A3).mono ?_); rintro e w' ⟨rfl, rfl⟩; rw [C1.out])
          refine (rd A3 Hsm.out.1 E2.out (all64_length 0)).mono ?_
          rintro e w4 ⟨m4, rfl, A4, B4⟩
          have A0 := Lib.hid A4.drew
          have k1 := at_conv A0.out (m := m4) (List.mem_cons_self ..) (all64_length 0)
          obtain ⟨s1, hs1⟩ : ∃ s, str zero64 = s := ⟨_, rfl⟩
          rw [hs1] at k1
          have Hs1 := Lib.hid hs1
          clear hs1
          go_wp2_with fail
          go_region_held_law (fun w' => (convert 49 9 (.slice (some ⟨m4, 0, none⟩) 64 64)).run Try.prog w' = .ok (.string s1) w') (first | exact k1 | exact k4) (first
            | (go_at_call 19; refine (at_full A0.out 0).mono ?_; rintro e w11 ⟨rfl, AX, BX⟩; simp only [World.size_drew] at AX; have k3 := at_conv AX (m := _) (List.mem_cons_self ..) (all64_length _); have k4 := at_conv AX (m := m4) (List.mem_cons_of_mem _ (List.mem_cons_self ..)) (all64_length 0); change _ = Result.ok (Value.string (str zero64)) _ at k3; rw [Hs1.out] at k3 k4; have AE := Lib.hid AX; clear AX))
          go_wp2_with (go_at_call 15; (with_reducible refine (at_cached AE.out).mono ?_); rintro e w' ⟨rfl, rfl⟩; rw [C2.out])
          refine (sy AE.out Hsm.out.2 E3.out).mono ?_
          rintro e w5 ⟨rfl, A5, B5⟩
          go_wp2_with (go_at_call 15; (with_reducible refine (at_cached A5).mono ?_); rintro e w' ⟨rfl, rfl⟩; rw [C3.out])
          refine ⟨?ex, ?measure⟩
          case ex =>
            repeat' apply Exists.intro
            exact ⟨⟨n, n + 1, _, rfl, by omega, by go_num, Hnx.out.1, A5.less (fun x hx => by simp at hx), ((((Hb.out.trans (B2.mono hle)).trans (B3.mono hle)).trans (B4.mono hle)).drew.trans (BX.mono hle)).trans (B5.mono hle)⟩, rfl⟩
          case measure => simp [intOf]; omega
        · have e1 : st.write (n : Int) (all64 n) = (0, rw1 st n false) := by have := rnd_write (wh := false) h (by omega) (by simp [hnt]); rw [← hn] at this; exact this
          have e2 : (rw1 st n false).read (n : Int) = (0, (all64 n)) := by have := rnd_read (wh := false) (rh := false) h (by omega) (by simp [hnt]); rw [← hn] at this; exact this
          have e3 : ((rw1 st n false).count 1).sync = (0, rw3 st n false false) := by have := rnd_sync (wh := false) (sh := false) h (by simp [hnt]); rw [← hn] at this; exact this
          have hsm := rw1_small (wh := false) h (by omega)
          have hnx := rnd_next (wh := false) (sh := false) h
          have hcl := rw1_cache (st := st) (i := i) (wh := false)
          rw [← hn] at hsm hnx hcl
          have c0 : ((st.cache.length : Nat) : Int) = (cl : Int) := by rw [hclv]
          have c1 : (((rw1 st n false).cache.length : Nat) : Int) = (cl : Int) + 1 := by rw [hcl, hclv]; simp
          have c2 : ((((rw1 st n false).count 1).cache.length : Nat) : Int) = (cl : Int) + 1 := c1
          have c3 : (((rw3 st n false false).cache.length : Nat) : Int) = 0 := by rw [hnx.2]; rfl
          have hnt' : ((n : Int) == (t : Int)) = false := by simp; omega
          have Hs0 := Lib.hid (h.small (by omega))
          have Hsm := Lib.hid hsm
          have Hnx := Lib.hid hnx
          have E1 := Lib.hid e1
          have E2 := Lib.hid e2
          have E3 := Lib.hid e3
          have HA := Lib.hid hA
          have Hb := Lib.hid hbr
          have C0 := Lib.hid c0
          have C1 := Lib.hid c1
          have C2 := Lib.hid c2
          have C3 := Lib.hid c3
          clear e1 e2 e3 hsm hnx hcl h hA hbr hclv c0 c1 c2 c3 hnt hn
          go_wp2_with (go_at_call 15; (with_reducible refine (at_cached HA.out).mono ?_); rintro e w' ⟨rfl, rfl⟩; rw [C0.out])
          refine (at_full HA.out n).mono ?_
          rintro e w2 ⟨rfl, A2, B2⟩
          go_wp2_with fail
          refine (Go.Proofs.Ytikionlakldjoaa.wr A2 Hs0.out (List.mem_cons_self ..) (all64_length n) (all64_bytes (by omega)) E1.out).mono ?_
          rintro e w3 ⟨rfl, A3, B3⟩
          go_wp2_with (go_at_call 15; (with_reducible refine (at_cached A3).mono ?_); rintro e w' ⟨rfl, rfl⟩; rw [C1.out])
          refine (rd A3 Hsm.out.1 E2.out (all64_length n)).mono ?_
          rintro e w4 ⟨m4, rfl, A4, B4⟩
          have A0 := Lib.hid A4.drew
          have k1 := at_conv A0.out (m := m4) (List.mem_cons_self ..) (all64_length n)
          obtain ⟨s1, hs1⟩ : ∃ s, str (all64 n) = s := ⟨_, rfl⟩
          rw [hs1] at k1
          have Hs1 := Lib.hid hs1
          clear hs1
          go_wp2_with fail
          go_region_held_law (fun w' => (convert 49 9 (.slice (some ⟨m4, 0, none⟩) 64 64)).run Try.prog w' = .ok (.string s1) w') (first | exact k1 | exact k4) (first
            | (go_at_call 19; refine (at_full A0.out n).mono ?_; rintro e w11 ⟨rfl, AX, BX⟩; simp only [World.size_drew] at AX; have k3 := at_conv AX (m := _) (List.mem_cons_self ..) (all64_length _); have k4 := at_conv AX (m := m4) (List.mem_cons_of_mem _ (List.mem_cons_self ..)) (all64_length n); rw [Hs1.out] at k3 k4; have AE := Lib.hid AX; clear AX))
          go_wp2_with (go_at_call 15; (with_reducible refine (at_cached AE.out).mono ?_); rintro e w' ⟨rfl, rfl⟩; rw [C2.out])
          refine (sy AE.out Hsm.out.2 E3.out).mono ?_
          rintro e w5 ⟨rfl, A5, B5⟩
          go_wp2_with (go_at_call 15; (with_reducible refine (at_cached A5).mono ?_); rintro e w' ⟨rfl, rfl⟩; rw [C3.out])
          refine ⟨?ex, ?measure⟩
          case ex =>
            repeat' apply Exists.intro
            exact ⟨⟨n, n + 1, _, rfl, by omega, by go_num, Hnx.out.1, A5.less (fun x hx => by simp at hx), ((((Hb.out.trans (B2.mono hle)).trans (B3.mono hle)).trans (B4.mono hle)).drew.trans (BX.mono hle)).trans (B5.mono hle)⟩, rfl⟩
          case measure => simp [intOf]; omega
      · by_cases hnt : t = i + 1
        · have e1 : st.write (n : Int) (all64 n) = (0, rw1 st n false) := by have := rnd_write (wh := false) h (by omega) (by simp [hnt]); rw [← hn] at this; exact this
          have e2 : (rw1 st n false).read (n : Int) = (0, (all64 n)) := by have := rnd_read (wh := false) (rh := false) h (by omega) (by simp [hnt]); rw [← hn] at this; exact this
          have e3 : ((rw1 st n false).count 1).sync = (6, rw3 st n false true) := by have := rnd_sync (wh := false) (sh := true) h (by simp [hnt]); rw [← hn] at this; exact this
          have hsm := rw1_small (wh := false) h (by omega)
          have hnx := rnd_next (wh := false) (sh := true) h
          have hcl := rw1_cache (st := st) (i := i) (wh := false)
          rw [← hn] at hsm hnx hcl
          have c0 : ((st.cache.length : Nat) : Int) = (cl : Int) := by rw [hclv]
          have c1 : (((rw1 st n false).cache.length : Nat) : Int) = (cl : Int) + 1 := by rw [hcl, hclv]; simp
          have c2 : ((((rw1 st n false).count 1).cache.length : Nat) : Int) = (cl : Int) + 1 := c1
          have c3 : (((rw3 st n false true).cache.length : Nat) : Int) = (cl : Int) + 1 := by rw [hnx.2]; exact c1
          have hnt' : ((n : Int) == (t : Int)) = true := by simp; omega
          have Hs0 := Lib.hid (h.small (by omega))
          have Hsm := Lib.hid hsm
          have Hnx := Lib.hid hnx
          have E1 := Lib.hid e1
          have E2 := Lib.hid e2
          have E3 := Lib.hid e3
          have HA := Lib.hid hA
          have Hb := Lib.hid hbr
          have C0 := Lib.hid c0
          have C1 := Lib.hid c1
          have C2 := Lib.hid c2
          have C3 := Lib.hid c3
          clear e1 e2 e3 hsm hnx hcl h hA hbr hclv c0 c1 c2 c3 hnt hn
          go_wp2_with (go_at_call 15; (with_reducible refine (at_cached HA.out).mono ?_); rintro e w' ⟨rfl, rfl⟩; rw [C0.out])
          refine (at_full HA.out n).mono ?_
          rintro e w2 ⟨rfl, A2, B2⟩
          go_wp2_with fail
          refine (Go.Proofs.Ytikionlakldjoaa.wr A2 Hs0.out (List.mem_cons_self ..) (all64_length n) (all64_bytes (by omega)) E1.out).mono ?_
          rintro e w3 ⟨rfl, A3, B3⟩
          go_wp2_with (go_at_call 15; (with_reducible refine (at_cached A3).mono ?_); rintro e w' ⟨rfl, rfl⟩; rw [C1.out])
          refine (rd A3 Hsm.out.1 E2.out (all64_length n)).mono ?_
          rintro e w4 ⟨m4, rfl, A4, B4⟩
          have A0 := Lib.hid A4.drew
          have k1 := at_conv A0.out (m := m4) (List.mem_cons_self ..) (all64_length n)
          obtain ⟨s1, hs1⟩ : ∃ s, str (all64 n) = s := ⟨_, rfl⟩
          rw [hs1] at k1
          have Hs1 := Lib.hid hs1
          clear hs1
          go_wp2_with fail
          go_region_held_law (fun w' => (convert 49 9 (.slice (some ⟨m4, 0, none⟩) 64 64)).run Try.prog w' = .ok (.string s1) w') (first | exact k1 | exact k4) (first
            | (go_at_call 19; refine (at_full A0.out n).mono ?_; rintro e w11 ⟨rfl, AX, BX⟩; simp only [World.size_drew] at AX; have k3 := at_conv AX (m := _) (List.mem_cons_self ..) (all64_length _); have k4 := at_conv AX (m := m4) (List.mem_cons_of_mem _ (List.mem_cons_self ..)) (all64_length n); rw [Hs1.out] at k3 k4; have AE := Lib.hid AX; clear AX))
          go_wp2_with (go_at_call 15; (with_reducible refine (at_cached AE.out).mono ?_); rintro e w' ⟨rfl, rfl⟩; rw [C2.out])
          refine (sy AE.out Hsm.out.2 E3.out).mono ?_
          rintro e w5 ⟨rfl, A5, B5⟩
          go_wp2_with (go_at_call 15; (with_reducible refine (at_cached A5).mono ?_); rintro e w' ⟨rfl, rfl⟩; rw [C3.out])
          refine ⟨?ex, ?measure⟩
          case ex =>
            repeat' apply Exists.intro
            exact ⟨⟨n, n + 1, _, rfl, by omega, by go_num, Hnx.out.1, A5.less (fun x hx => by simp at hx), ((((Hb.out.trans (B2.mono hle)).trans (B3.mono hle)).trans (B4.mono hle)).drew.trans (BX.mono hle)).trans (B5.mono hle)⟩, rfl⟩
          case measure => simp [intOf]; omega
        · have e1 : st.write (n : Int) (all64 n) = (0, rw1 st n false) := by have := rnd_write (wh := false) h (by omega) (by simp [hnt]); rw [← hn] at this; exact this
          have e2 : (rw1 st n false).read (n : Int) = (0, (all64 n)) := by have := rnd_read (wh := false) (rh := false) h (by omega) (by simp [hnt]); rw [← hn] at this; exact this
          have e3 : ((rw1 st n false).count 1).sync = (0, rw3 st n false false) := by have := rnd_sync (wh := false) (sh := false) h (by simp [hnt]); rw [← hn] at this; exact this
          have hsm := rw1_small (wh := false) h (by omega)
          have hnx := rnd_next (wh := false) (sh := false) h
          have hcl := rw1_cache (st := st) (i := i) (wh := false)
          rw [← hn] at hsm hnx hcl
          have c0 : ((st.cache.length : Nat) : Int) = (cl : Int) := by rw [hclv]
          have c1 : (((rw1 st n false).cache.length : Nat) : Int) = (cl : Int) + 1 := by rw [hcl, hclv]; simp
          have c2 : ((((rw1 st n false).count 1).cache.length : Nat) : Int) = (cl : Int) + 1 := c1
          have c3 : (((rw3 st n false false).cache.length : Nat) : Int) = 0 := by rw [hnx.2]; rfl
          have hnt' : ((n : Int) == (t : Int)) = false := by simp; omega
          have Hs0 := Lib.hid (h.small (by omega))
          have Hsm := Lib.hid hsm
          have Hnx := Lib.hid hnx
          have E1 := Lib.hid e1
          have E2 := Lib.hid e2
          have E3 := Lib.hid e3
          have HA := Lib.hid hA
          have Hb := Lib.hid hbr
          have C0 := Lib.hid c0
          have C1 := Lib.hid c1
          have C2 := Lib.hid c2
          have C3 := Lib.hid c3
          clear e1 e2 e3 hsm hnx hcl h hA hbr hclv c0 c1 c2 c3 hnt hn
          go_wp2_with (go_at_call 15; (with_reducible refine (at_cached HA.out).mono ?_); rintro e w' ⟨rfl, rfl⟩; rw [C0.out])
          refine (at_full HA.out n).mono ?_
          rintro e w2 ⟨rfl, A2, B2⟩
          go_wp2_with fail
          refine (Go.Proofs.Ytikionlakldjoaa.wr A2 Hs0.out (List.mem_cons_self ..) (all64_length n) (all64_bytes (by omega)) E1.out).mono ?_
          rintro e w3 ⟨rfl, A3, B3⟩
          go_wp2_with (go_at_call 15; (with_reducible refine (at_cached A3).mono ?_); rintro e w' ⟨rfl, rfl⟩; rw [C1.out])
          refine (rd A3 Hsm.out.1 E2.out (all64_length n)).mono ?_
          rintro e w4 ⟨m4, rfl, A4, B4⟩
          have A0 := Lib.hid A4.drew
          have k1 := at_conv A0.out (m := m4) (List.mem_cons_self ..) (all64_length n)
          obtain ⟨s1, hs1⟩ : ∃ s, str (all64 n) = s := ⟨_, rfl⟩
          rw [hs1] at k1
          have Hs1 := Lib.hid hs1
          clear hs1
          go_wp2_with fail
          go_region_held_law (fun w' => (convert 49 9 (.slice (some ⟨m4, 0, none⟩) 64 64)).run Try.prog w' = .ok (.string s1) w') (first | exact k1 | exact k4) (first
            | (go_at_call 19; refine (at_full A0.out n).mono ?_; rintro e w11 ⟨rfl, AX, BX⟩; simp only [World.size_drew] at AX; have k3 := at_conv AX (m := _) (List.mem_cons_self ..) (all64_length _); have k4 := at_conv AX (m := m4) (List.mem_cons_of_mem _ (List.mem_cons_self ..)) (all64_length n); rw [Hs1.out] at k3 k4; have AE := Lib.hid AX; clear AX))
          go_wp2_with (go_at_call 15; (with_reducible refine (at_cached AE.out).mono ?_); rintro e w' ⟨rfl, rfl⟩; rw [C2.out])
          refine (sy AE.out Hsm.out.2 E3.out).mono ?_
          rintro e w5 ⟨rfl, A5, B5⟩
          go_wp2_with (go_at_call 15; (with_reducible refine (at_cached A5).mono ?_); rintro e w' ⟨rfl, rfl⟩; rw [C3.out])
          refine ⟨?ex, ?measure⟩
          case ex =>
            repeat' apply Exists.intro
            exact ⟨⟨n, n + 1, _, rfl, by omega, by go_num, Hnx.out.1, A5.less (fun x hx => by simp at hx), ((((Hb.out.trans (B2.mono hle)).trans (B3.mono hle)).trans (B4.mono hle)).drew.trans (BX.mono hle)).trans (B5.mono hle)⟩, rfl⟩
          case measure => simp [intOf]; omega
    · have hi9' : i = 9 := by omega
      subst hi9'
      have q0 : decide ((n : Int) ≤ 9) = false := by simp; omega
      have n1 : st.counted 1 = 9 := by unfold PSt.counted; rw [if_pos (by decide)]; show ((st.ops 1 : Nat) : Int) = 9; rw [(h.o 1 (by omega) (by omega)).1]; rfl
      have n2 : st.counted 2 = 9 := by unfold PSt.counted; rw [if_pos (by decide)]; show ((st.ops 2 : Nat) : Int) = 9; rw [(h.o 2 (by omega) (by omega)).1]; rfl
      have n3 : st.counted 3 = 9 := by unfold PSt.counted; rw [if_pos (by decide)]; show ((st.ops 3 : Nat) : Int) = 9; rw [(h.o 3 (by omega) (by omega)).1]; rfl
      have HA := Lib.hid hA
      have N1 := Lib.hid n1
      have N2 := Lib.hid n2
      have N3 := Lib.hid n3
      clear hA n1 n2 n3 h hn hi hi9
      go_wp2_with (first
        | (go_at_call 23; (with_reducible refine (at_count HA.out 1).mono ?_); rintro e w' ⟨rfl, rfl⟩; rw [N1.out])
        | (go_at_call 23; (with_reducible refine (at_count HA.out 2).mono ?_); rintro e w' ⟨rfl, rfl⟩; rw [N2.out])
        | (go_at_call 23; (with_reducible refine (at_count HA.out 3).mono ?_); rintro e w' ⟨rfl, rfl⟩; rw [N3.out]))
      go_ret
      exact ⟨rfl, hbr⟩
end Go.Proofs.Ytikionlakldjoaa
