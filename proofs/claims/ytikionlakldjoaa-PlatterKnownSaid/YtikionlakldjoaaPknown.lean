/- PlatterKnown, walked. -/
import Derived.Test.YtikionlakldjoaaPawake
namespace Go.Proofs.Ytikionlakldjoaa
open Go.RowKit Go.Maps

theorem at_short {B : Nat} {w : World} {p : Nat} {st : PSt} {ks : List (Nat × List Nat)} (h : At B w p st ks) (hs : Small st) (hp : st.plan = []) (n : Int) {m : Nat} {l : List Nat} (hm : (m, l) ∈ ks) (h64 : l.length = 64) (hl : ∀ x ∈ l, x < 256) :
    Calls Try.prog 18 #[.pointer (some ⟨p, 0, none⟩), .int .i64 n, .slice (some ⟨m, 1, none⟩) 63 63] w fun e w' => e = .returned (.int .i64 1) ∧ At B w' p (st.count 2) ks ∧ Below B w w' := by
  obtain ⟨hB, F, hd, hF, hk⟩ := h
  obtain ⟨t, h1, h2⟩ := hk _ hm
  have hl63 : (l.drop 1).length = 63 := by rw [List.length_drop, h64]
  have hc := dwrite_any p st F w hd (hs.o 2 (by omega)) hs.c hs.b n (some ⟨m, 1, none⟩) 63 (l.drop 1) (fun x hx => hl x (List.mem_of_mem_drop hx)) (.inr ⟨m, 1, rfl, h1.lt, fun i hi => by
    rw [byts_length, hl63] at hi; rw [h1.cell (1 + i)]; simp [byts, Nat.add_comm, List.getElem?_eq_getElem (show i + 1 < l.length by omega)]⟩) (fun b o e => by injection e with e; injection e with e _; subst e; exact h2)
  rw [hl63, write_no hp (.inr (.inr (by omega)))] at hc
  exact hc.mono fun _ _ ⟨e, hd', hc'⟩ => ⟨e, at_chg hB hF hk hd' ext_new hc'⟩
set_option maxHeartbeats 2000000 in
theorem known_any (w : World) : Calls Try.prog 8 #[] w fun e w' => e = .returned (.bool true) ∧ Below w.heap.size w w' := by
  have M0 := mild_new 8192
  have hb8 : (newSt 8192).blocks.length = 8192 := List.length_replicate ..
  have e1 : (newSt 8192).write 8191 (all64 1) = (0, ((newSt 8192).count 2).put 8191 (all64 1)) := write_yes rfl (by rw [hb8]; decide) (all64_length 1)
  have M1 := M0.put 2 8191 (all64 1)
  have l1 : (((newSt 8192).count 2).put 8191 (all64 1)).look 8191 = all64 1 := by rw [look_put, if_pos rfl]
  have c1 : (((newSt 8192).count 2).put 8191 (all64 1)).cache.length = 1 := rfl
  have o1 : (((newSt 8192).count 2).put 8191 (all64 1)).ops 2 = 1 ∧ (((newSt 8192).count 2).put 8191 (all64 1)).ops 1 = 0 := ⟨rfl, rfl⟩
  generalize hS1 : ((newSt 8192).count 2).put 8191 (all64 1) = S1 at *
  have e2 : S1.write 8192 (all64 1) = (1, S1.count 2) := write_no M1.p (.inr (.inl (by rw [M1.b]; decide)))
  have M2 := M1.count 2
  have M3 := M2.count 2
  have M4 := M3.count 1
  have M5 := M4.count 1
  have M6 := M5.count 1
  have e4 : (((S1.count 2).count 2)).read (-1) = (1, []) := read_no M3.p (.inl (by decide))
  have e5 : (((S1.count 2).count 2).count 1).read 8192 = (1, []) := read_no M4.p (.inr (by rw [M4.b]; decide))
  have e6 : ((((S1.count 2).count 2).count 1).count 1).read 8191 = (0, all64 1) := by
    have := read_yes (n := 8191) M5.p (by rw [M5.b]; decide)
    rw [show ((((S1.count 2).count 2).count 1).count 1).look 8191 = S1.look 8191 from rfl, l1] at this
    exact this
  have c6 : ((((((S1.count 2).count 2).count 1).count 1).count 1).cache.length : Int) = 1 := by
    show ((S1.cache.length : Nat) : Int) = 1
    rw [c1]; rfl
  have n2 : (((((S1.count 2).count 2).count 1).count 1).count 1).counted 2 = 3 := by simp [PSt.counted, PSt.count, bump, o1.1]
  have n1 : (((((S1.count 2).count 2).count 1).count 1).count 1).counted 1 = 3 := by simp [PSt.counted, PSt.count, bump, o1.2]
  have n0 : (((((S1.count 2).count 2).count 1).count 1).count 1).counted 0 = 0 := rfl
  have b0 : ((newSt 8192).blocks.length : Int) = 8192 := by rw [hb8]; rfl
  go_enter Try.func8, Try.ntmps8
  go_wp2_with fail
  refine (pawake _).mono ?_
  rintro e wa ⟨rfl, Ba⟩
  go_wp2_with fail
  refine (dnew_bad 63 (by omega) _).mono ?_
  rintro e w' ⟨rfl, rfl⟩
  go_wp2_with fail
  refine (dnew_bad 8193 (by omega) _).mono ?_
  rintro e w' ⟨rfl, rfl⟩
  go_wp2_with fail
  refine (at_new 8192 (by omega) (by omega) _).mono ?_
  rintro e w1 ⟨rfl, A1, B1⟩
  go_wp2_with (go_at_call 25; refine (at_blocks A1).mono ?_; rintro e w' ⟨rfl, rfl⟩; rw [b0])
  have W1 := Ba.trans (B1.mono Ba.size)
  have hle := Ba.size
  refine (at_full A1 1).mono ?_
  rintro e w2 ⟨rfl, A2, B2⟩
  go_wp2_with fail
  refine (wr A2 (M0.small (by omega) (by omega)) (List.mem_cons_self ..) (all64_length 1) (all64_bytes (by omega)) e1).mono ?_
  rintro e w3 ⟨rfl, A3, B3⟩
  go_wp2_with fail
  refine (at_full A3 1).mono ?_
  rintro e w4 ⟨rfl, A4, B4⟩
  go_wp2_with fail
  refine (wr A4 (M1.small (by omega) (by omega)) (List.mem_cons_self ..) (all64_length 1) (all64_bytes (by omega)) e2).mono ?_
  rintro e w5 ⟨rfl, A5, B5⟩
  go_wp2_with fail
  refine (at_full A5 1).mono ?_
  rintro e w6 ⟨rfl, A6, B6⟩
  go_wp2_with fail
  refine (at_short A6 (M2.small (by omega) (by omega)) M2.p 0 (List.mem_cons_self ..) (all64_length 1) (all64_bytes (by omega))).mono ?_
  rintro e w7 ⟨rfl, A7, B7⟩
  go_wp2_with fail
  refine (rd_no A7 (M3.small (by omega) (by omega)) e4).mono ?_
  rintro e w8 ⟨rfl, A8, B8⟩
  go_wp2_with fail
  refine (rd_no A8 (M4.small (by omega) (by omega)) e5).mono ?_
  rintro e w9 ⟨rfl, A9, B9⟩
  go_wp2_with fail
  refine (rd A9 (M5.small (by omega) (by omega)) e6 (all64_length 1)).mono ?_
  rintro e w10 ⟨m10, rfl, A10, B10⟩
  have Bw : Below w.heap.size w w10 := ((((((((W1.trans (B2.mono hle)).trans (B3.mono hle)).trans (B4.mono hle)).trans (B5.mono hle)).trans (B6.mono hle)).trans (B7.mono hle)).trans (B8.mono hle)).trans (B9.mono hle)).trans (B10.mono hle)
  have A0 := Lib.hid (A10.less (ks' := [(m10, all64 1)]) (by simp)).drew
  have k1 := at_conv A0.out (m := m10) (by simp) (all64_length 1)
  obtain ⟨s1, hs1⟩ : ∃ s, str (all64 1) = s := ⟨_, rfl⟩
  rw [hs1] at k1
  have Hs1 := Lib.hid hs1
  clear hs1 A1 A2 A3 A4 A5 A6 A7 A8 A9 A10 W1 B1 B2 B3 B4 B5 B6 B7 B8 B9 B10 e1 e2 e4 e5 e6 l1 M0 M1 M2 M3 M4 M5 M6 hS1 c1 o1 b0 hb8
  go_wp2_with fail
  go_region_held_law (fun w' => (convert 49 9 (.slice (some ⟨m10, 0, none⟩) 64 64)).run Try.prog w' = .ok (.string s1) w') (first | exact k1 | exact k4) (first
    | (go_at_call 19; refine (at_full A0.out 1).mono ?_; rintro e w11 ⟨rfl, AX, BX⟩; simp only [World.size_drew] at AX; have k3 := at_conv AX (m := _) (List.mem_cons_self ..) (all64_length _); have k4 := at_conv AX (m := m10) (by simp) (all64_length 1); rw [Hs1.out] at k3 k4; have AA := Lib.hid AX; clear AX)
    | (go_at_call 15; (with_reducible refine (at_cached AA.out).mono ?_); rintro e w' ⟨rfl, rfl⟩; rw [c6])
    | (go_at_call 23; (with_reducible refine (at_count AA.out 2).mono ?_); rintro e w' ⟨rfl, rfl⟩; rw [n2])
    | (go_at_call 23; (with_reducible refine (at_count AA.out 1).mono ?_); rintro e w' ⟨rfl, rfl⟩; rw [n1])
    | (go_at_call 23; (with_reducible refine (at_count AA.out 0).mono ?_); rintro e w' ⟨rfl, rfl⟩; rw [n0]))
  go_wp2_with fail
  go_ret
  exact ⟨rfl, Bw.drew.trans (BX.mono hle)⟩
end Go.Proofs.Ytikionlakldjoaa
