/- The program's header, checksum and Size. -/
import Derived.Test.YtpicalkcgioimaaLnum
import Derived.Test.YtpicalkcgioimaaRmake
import Derived.Test.YtpicalkcgioimaaRopen
import Derived.Deep.RegionWith
namespace Go.Proofs.Ytpicalkcgioimaa
open Go.RowKit Crc

theorem g4_drop (l : List Nat) (k : Nat) : g4 (l.drop k) 0 = g4 l k := by
  have e : ∀ i, (l.drop k).getD i 0 = l.getD (k + i) 0 := fun i => by
    rw [List.getD_eq_getElem?_getD, List.getD_eq_getElem?_getD, List.getElem?_drop]
  unfold g4
  rw [e, e, e, e]
  rfl
/-- number behind a cut. -/
theorem num_at (A : Option Addr) (cap : Nat) (l : List Nat) (hl : ∀ x ∈ l, x < 256) (k : Nat) (hk : k + 4 ≤ l.length) (hcap : l.length ≤ cap) (hlen : l.length ≤ 1000000000) {w : World} {B : Nat} (hsl : Sl w B A (byts l)) :
    Calls Try.prog 25 #[.slice (cutA A cap k) (l.length - k) (cap - k)] w fun e w' => e = .returned (.int .u32 ((g4 l k : Nat) : Int)) ∧ w' = w := by
  rw [← g4_drop]
  exact number_any (cutA A cap k) (cap - k) (l.drop k) (fun x hx => hl x (List.mem_of_mem_drop hx)) (l.length - k) (by rw [List.length_drop]) (by omega) (by omega) (by rw [← byts_drop]; exact hsl.from (by rw [byts_length]; exact hcap))

/-- What header returns. -/
def headV (l : List Nat) : Value := .tuple #[.int .i64 ((if sizeE l = 0 then g4 l 4 else 0 : Nat) : Int), .int .i64 ((if sizeE l = 0 then g4 l 8 else 0 : Nat) : Int), .int .i64 ((sizeE l : Nat) : Int)]
def HeadR (l : List Nat) (w : World) (e : Ending) (w' : World) : Prop := e = .returned (headV l) ∧ ∃ n, w' = w.drewN n
theorem headV_bad {l : List Nat} (h : sizeE l ≠ 0) : headV l = .tuple #[.int .i64 0, .int .i64 0, .int .i64 ((sizeE l : Nat) : Int)] := by simp [headV, h]
theorem headV_good {l : List Nat} (h : sizeE l = 0) : headV l = .tuple #[.int .i64 ((g4 l 4 : Nat) : Int), .int .i64 ((g4 l 8 : Nat) : Int), .int .i64 0] := by simp [headV, h]
theorem q_num (A : Option Addr) (cap : Nat) (l : List Nat) (hl : ∀ x ∈ l, x < 256) (k : Nat) (hk : k + 4 ≤ l.length) (hcap : l.length ≤ cap) (hlen : l.length ≤ 1000000000) {w : World} {B : Nat} (hsl : Sl w B A (byts l)) (n : Nat) :
    Calls Try.prog 25 #[.slice (cutA A cap k) (l.length - k) (cap - k)] (w.drewN n) fun e w' => e = .returned (.int .u32 ((g4 l k : Nat) : Int)) ∧ ∃ n', w' = w.drewN n' := by
  refine (num_at A cap l hl k hk hcap hlen (w := w.drewN n) hsl).mono ?_
  rintro e w' ⟨rfl, rfl⟩
  exact ⟨rfl, n, rfl⟩

set_option maxHeartbeats 4000000 in
theorem header_any (A : Option Addr) (cap : Nat) (l : List Nat) (hl : ∀ x ∈ l, x < 256) (hcap : l.length ≤ cap) (hlen : l.length ≤ 1000000000) {w : World} {B : Nat} (hsl : Sl w B A (byts l)) :
    Calls Try.prog 24 #[.slice A l.length cap] w (HeadR l w) := by
  by_cases hs : l.length < 16
  · have q0 : decide (l.length < 16) = true := by simpa using hs
    have q0' : decide ((l.length : Int) < 16) = true := by simp; omega
    have e : headV l = .tuple #[.int .i64 0, .int .i64 0, .int .i64 2] := by
      have : sizeE l = 2 := by unfold sizeE; rw [if_pos hs]
      rw [headV_bad (by omega), this]; rfl
    unfold HeadR
    rw [e]
    clear e hs hl hsl
    go_enter Try.func24, Try.ntmps24
    go_wp2_with fail
    go_returns
    exact ⟨rfl, 0, rfl⟩
  have q0 : decide (l.length < 16) = false := by simpa using hs
  have q0' : decide ((l.length : Int) < 16) = false := by simp; omega
  obtain ⟨i0, hi0, hz0, hs0, hb0⟩ := byte_parts (P := Try.prog) (e := 5) (by kernel_rfl)
  have cut4 : ∀ w, (Instr.slice 22 (.slice A l.length cap) (some (.int .i64 4)) none none).run Try.prog w = .ok (.slice (cutA A cap 4) (l.length - 4) (cap - 4)) w := fun w => run_slice_from (P := Try.prog) Try.underlying22 hi0 hs0 A l.length cap 4 (by omega) w
  have cut8 : ∀ w, (Instr.slice 22 (.slice A l.length cap) (some (.int .i64 8)) none none).run Try.prog w = .ok (.slice (cutA A cap 8) (l.length - 8) (cap - 8)) w := fun w => run_slice_from (P := Try.prog) Try.underlying22 hi0 hs0 A l.length cap 8 (by omega) w
  have N4 := Lib.hid (q_num A cap l hl 4 (by omega) hcap hlen hsl)
  have N8 := Lib.hid (q_num A cap l hl 8 (by omega) hcap hlen hsl)
  have hx0 := getB_lt hl 0
  have hx1 := getB_lt hl 1
  have hx3 := getB_lt hl 3
  have hg8 := g4_lt hl 8
  have hg4 := g4_lt hl 4
  obtain ⟨b, o, rfl, c0⟩ := sl_cell hsl (k := 0) (by omega)
  obtain ⟨b', o', e, c1⟩ := sl_cell hsl (k := 1) (by omega)
  obtain ⟨rfl, rfl⟩ : b' = b ∧ o' = o := by simpa using e.symm
  obtain ⟨b2, o2, e, c3⟩ := sl_cell hsl (k := 3) (by omega)
  obtain ⟨rfl, rfl⟩ : b2 = b' ∧ o2 = o' := by simpa using e.symm
  have hv1 : badHead l → headV l = .tuple #[.int .i64 0, .int .i64 0, .int .i64 4] := fun hb => by
    have : sizeE l = 4 := by unfold sizeE; rw [if_neg hs, if_pos hb]
    rw [headV_bad (by omega), this]; rfl
  have hv0 : ¬ badHead l → headV l = .tuple #[.int .i64 ((g4 l 4 : Nat) : Int), .int .i64 ((g4 l 8 : Nat) : Int), .int .i64 0] := fun hb => by
    have : sizeE l = 0 := by unfold sizeE; rw [if_neg hs, if_neg hb]
    exact headV_good this
  unfold badHead at hv1 hv0
  have Hv1 := Lib.hid hv1
  have Hv0 := Lib.hid hv0
  unfold HeadR
  have hn16 : 16 ≤ l.length := by omega
  clear hv1 hv0 hl hsl hs e
  generalize l.getD 0 0 = x0 at *
  generalize l.getD 1 0 = x1 at *
  generalize l.getD 3 0 = x3 at *
  generalize g4 l 8 = y8 at *
  generalize g4 l 4 = y4 at *
  generalize headV l = V at *
  generalize l.length = n at *
  generalize cutA (some ⟨b2, o2, none⟩) cap 4 = A4 at *
  generalize cutA (some ⟨b2, o2, none⟩) cap 8 = A8 at *
  obtain ⟨b0, p0⟩ : ∃ b, ((x0 : Int) != 197) = b := ⟨_, rfl⟩
  obtain ⟨b1, p1⟩ : ∃ b, ((x1 : Int) != 126) = b := ⟨_, rfl⟩
  obtain ⟨b3, p3⟩ : ∃ b, ((x3 : Int) != 0) = b := ⟨_, rfl⟩
  obtain ⟨b8, p8⟩ : ∃ b, decide (4096 < (y8 : Int)) = b := ⟨_, rfl⟩
  obtain ⟨b4, p4⟩ : ∃ b, decide (2147483647 < (y4 : Int)) = b := ⟨_, rfl⟩
  go_enter Try.func24, Try.ntmps24
  go_wp2_with fail
  go_quiet ((first
    | (go_at_call 25; with_reducible exact N4.out _)
    | (go_at_call 25; with_reducible exact N8.out _)))
  have d0 : (w.drewN nq).cell? ⟨b2, o2, none⟩ = some (.int .u8 (x0 : Int)) := c0
  have d1 : (w.drewN nq).cell? ⟨b2, o2 + 1, none⟩ = some (.int .u8 (x1 : Int)) := c1
  have d3 : (w.drewN nq).cell? ⟨b2, o2 + 3, none⟩ = some (.int .u8 (x3 : Int)) := c3
  have HW : Hid (∃ n, w.drewN nq = w.drewN n) := Lib.hid ⟨nq, rfl⟩
  clear c0 c1 c3 N4 N8 cut4 cut8
  generalize w.drewN nq = W1 at *
  have bad : (x0 ≠ 197 ∨ x1 ≠ 126 ∨ x3 ≠ 0 ∨ 4096 < y8 ∨ 2147483647 < y4) → Hid (V = .tuple #[.int .i64 0, .int .i64 0, .int .i64 4]) := fun h => Lib.hid (Hv1.out h)
  cases b0 with
  | true =>
    have Hv := bad (.inl (by have : (x0 : Int) ≠ 197 := by simpa using p0
                             omega))
    clear Hv1 Hv0 bad
    go_wp2_with fail
    go_returns
    exact ⟨by rw [Hv.out]; rfl, HW.out⟩
  | false =>
  have r0 : x0 = 197 := by have : (x0 : Int) = 197 := by simpa using p0
                           omega
  cases b1 with
  | true =>
    have Hv := bad (.inr (.inl (by have : (x1 : Int) ≠ 126 := by simpa using p1
                                   omega)))
    clear Hv1 Hv0 r0 bad
    go_wp2_with fail
    go_returns
    exact ⟨by rw [Hv.out]; rfl, HW.out⟩
  | false =>
  have r1 : x1 = 126 := by have : (x1 : Int) = 126 := by simpa using p1
                           omega
  cases b3 with
  | true =>
    have Hv := bad (.inr (.inr (.inl (by have : (x3 : Int) ≠ 0 := by simpa using p3
                                         omega))))
    clear Hv1 Hv0 r0 r1 bad
    go_wp2_with fail
    go_returns
    exact ⟨by rw [Hv.out]; rfl, HW.out⟩
  | false =>
  have r3 : x3 = 0 := by have : (x3 : Int) = 0 := by simpa using p3
                         omega
  cases b8 with
  | true =>
    have Hv := bad (.inr (.inr (.inr (.inl (by have : 4096 < (y8 : Int) := by simpa using p8
                                               omega)))))
    clear Hv1 Hv0 r0 r1 r3 bad
    go_wp2_with fail
    go_returns
    exact ⟨by rw [Hv.out]; rfl, HW.out⟩
  | false =>
  have r8 : y8 ≤ 4096 := by have : (y8 : Int) ≤ 4096 := by simpa using p8
                            omega
  cases b4 with
  | true =>
    have Hv := bad (.inr (.inr (.inr (.inr (by have : 2147483647 < (y4 : Int) := by simpa using p4
                                               omega)))))
    clear Hv1 Hv0 r0 r1 r3 r8 bad
    go_wp2_with fail
    go_returns
    exact ⟨by rw [Hv.out]; rfl, HW.out⟩
  | false =>
    have r4 : y4 ≤ 2147483647 := by have : (y4 : Int) ≤ 2147483647 := by simpa using p4
                                    omega
    have Hv := Lib.hid (Hv0.out (by rintro (h | h | h | h | h) <;> omega))
    clear Hv1 Hv0 r0 r1 r3 r8 r4 bad
    go_wp2_with fail
    go_returns
    exact ⟨by rw [Hv.out]; rfl, HW.out⟩

set_option maxHeartbeats 4000000 in
theorem size_any (A : Option Addr) (cap : Nat) (l : List Nat) (hl : ∀ x ∈ l, x < 256) (hcap : l.length ≤ cap) (hlen : l.length ≤ 1000000000) {w : World} {B : Nat} (hsl : Sl w B A (byts l)) :
    Calls Try.prog 15 #[.slice A l.length cap] w (SizeR l w) := by
  have N := header_any A cap l hl hcap hlen hsl
  unfold HeadR at N
  unfold SizeR
  by_cases h : sizeE l = 0
  · rw [headV_good h] at N
    rw [sizeV_good h]
    have RB := Lib.hid (fun w => blocks_any (g4 l 8 : Nat) (IntWalk.i64_in _ (by have := g4_lt hl 8; omega)) w)
    have N' := Lib.hid N
    clear h N hl hsl hlen hcap
    generalize l.length = n at *
    go_enter Try.func15, Try.ntmps15
    go_wp2_with fail
    refine N'.out.mono ?_
    rintro e w1 ⟨rfl, n1, rfl⟩
    go_wp2_with fail
    refine (RB.out _).mono ?_
    rintro e w2 ⟨rfl, rfl⟩
    go_wp2_with fail
    go_returns
    exact ⟨rfl, n1, rfl⟩
  · rw [headV_bad h] at N
    rw [sizeV_bad h]
    have hne : ((sizeE l : Int) != 0) = true := by simp; omega
    have hne' : (sizeE l != 0) = true := by simp; omega
    have N' := Lib.hid N
    clear h N hl hsl hlen hcap
    generalize sizeE l = z at *
    generalize l.length = n at *
    go_enter Try.func15, Try.ntmps15
    go_wp2_with fail
    refine N'.out.mono ?_
    rintro e w1 ⟨rfl, n1, rfl⟩
    go_wp2_with fail
    go_returns
    exact ⟨rfl, n1, rfl⟩

set_option maxHeartbeats 4000000 in
theorem checksum_any (A : Option Addr) (cap : Nat) (l : List Nat) (hl : ∀ x ∈ l, x < 256) (m n : Nat) (hn : n = l.length) (h12 : 12 ≤ n) (hm : 16 + m ≤ n) (hcap : n ≤ cap) (hlen : n ≤ 1000000000) {W w : World} (hb : Below W.heap.size W w) (hsl : Sl w w.heap.size A (byts l)) :
    Calls Try.prog 20 #[.slice A n cap, .int .i64 (m : Int)] w fun e w' => e = .returned (.int .u32 ((sum (l.take 12 ++ (l.drop 16).take m) : Nat) : Int)) ∧ Below W.heap.size W w' := by
  obtain ⟨i0, hi0, hz0, hs0, hb0⟩ := byte_parts (P := Try.prog) (e := 5) (by kernel_rfl)
  obtain ⟨T2, hT2⟩ : ∃ T2 : Nat, T2 = 16 + m := ⟨_, rfl⟩
  have hsum : (16 : Int) + (m : Int) = (T2 : Int) := by omega
  have hcut : ∀ w, (Instr.slice 22 (.slice A n cap) (some (.int .i64 16)) (some (.int .i64 (T2 : Int))) none).run Try.prog w = .ok (.slice (cutA A cap 16) m (cap - 16)) w := fun w => by
    have := run_slice_mid (P := Try.prog) Try.underlying22 hi0 hs0 A n cap 16 T2 (by omega) (by omega) w
    rw [show T2 - 16 = m by omega] at this
    exact this
  have hcut2 : ∀ w, (Instr.slice 22 (.slice A n cap) none (some (.int .i64 12)) none).run Try.prog w = .ok (.slice A 12 cap) w := fun w =>
    run_slice_to (P := Try.prog) Try.underlying22 hi0 A n cap 12 (by omega) w
  have hwr : IntKind.i64.wrap (T2 : Int) = (T2 : Int) := IntWalk.i64_in _ (by omega)
  have hwr2 : IntKind.i64.wrap ((16 : Int) + (m : Int)) = (T2 : Int) := by rw [hsum]; exact hwr
  have hlt : (l.take 12).length = 12 := by rw [List.length_take]; omega
  have hld : ((l.drop 16).take m).length = m := by rw [List.length_take, List.length_drop]; omega
  have S1 : ∀ w', Below w.heap.size w w' → Calls Try.prog 18 #[.slice A 12 cap] w' fun e w'' => e = .returned (.int .u32 ((sum (l.take 12) : Nat) : Int)) ∧ Below w.heap.size w w'' := fun w' h => by
    have := sum_rel A cap (l.take 12) (fun x hx => hl x (List.mem_of_mem_take hx)) (by omega) h (by rw [← byts_take]; exact (sl_keep hsl h).to 12)
    rwa [hlt] at this
  have S2 : ∀ w', Below w.heap.size w w' → Calls Try.prog 29 #[.int .u32 ((sum (l.take 12) : Nat) : Int), .slice (cutA A cap 16) m (cap - 16)] w' fun e w'' => e = .returned (.int .u32 ((sum (l.take 12 ++ (l.drop 16).take m) : Nat) : Int)) ∧ Below w.heap.size w w'' := fun w' h => by
    have := more_rel (sum (l.take 12)) (more_lt (by decide) _) (cutA A cap 16) (cap - 16) ((l.drop 16).take m) (fun x hx => hl x (List.mem_of_mem_drop (List.mem_of_mem_take hx))) (by omega) h (by
      rw [← byts_take, ← byts_drop]
      exact ((sl_keep hsl h).from (by rw [byts_length, ← hn]; exact hcap)).to _)
    rwa [hld, ← sum_append] at this
  have hs12 : sum (l.take 12) < 4294967296 := more_lt (by decide) _
  have hsA : sum (l.take 12 ++ (l.drop 16).take m) < 4294967296 := more_lt (by decide) _
  have H1 := Lib.hid S1
  have H2 := Lib.hid S2
  have HB := Lib.hid hb
  have hbc : Below w.heap.size w w := Below.refl _ _
  clear S1 S2 hb hsl hl hn hld hlt
  generalize sum (l.take 12) = X1 at *
  generalize sum (l.take 12 ++ (l.drop 16).take m) = X2 at *
  generalize cutA A cap 16 = A16 at *
  clear hT2
  go_enter Try.func20, Try.ntmps20
  go_wp2_with fail
  go_region_with (first
    | (go_at_call 18; ((with_reducible refine (H1.out _ (by first | exact hbc | exact hbc.drew | exact hbc.drewN _)).mono ?_); rintro e w' ⟨rfl, hbc⟩))
    | (go_at_call 29; ((with_reducible refine (H2.out _ (by first | exact hbc | exact hbc.drew | exact hbc.drewN _)).mono ?_); rintro e w' ⟨rfl, hbc⟩)))
  all_goals (go_wp2_with fail; go_ret; exact ⟨rfl, HB.out.trans (hbc.mono HB.out.size)⟩)
end Go.Proofs.Ytpicalkcgioimaa
