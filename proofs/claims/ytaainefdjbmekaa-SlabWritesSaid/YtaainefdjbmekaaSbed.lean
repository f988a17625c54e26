/- The program's Make. -/
import Derived.Test.YtaainefdjbmekaaSbec
import Derived.Deep.OwnRows
import Derived.Deep.DeepCutAuto
namespace Go.Proofs.Ytaainefdjbmekaa
open Go.RowKit Crc
/-- The first twelve bytes of a frame in the making, with what stands behind. -/
theorem head_take (k g m : Nat) (X : List Nat) : (([197, 126, k, 0] ++ (le4 g ++ (le4 m ++ X)))).take 12 = headB k g m := by simp [headB, le4]
theorem head_drop (k g m : Nat) (Y X : List Nat) (hy : Y.length = 4) : (([197, 126, k, 0] ++ (le4 g ++ (le4 m ++ (Y ++ X))))).drop 16 = X := by
  match Y, hy with
  | [_, _, _, _], _ => simp [le4]
theorem frame_parts (k g : Nat) (d : List Nat) : frameB k g d = [197, 126, k, 0] ++ (le4 g ++ (le4 d.length ++ (le4 (sum (headB k g d.length ++ d)) ++ (d ++ List.replicate (fill (16 + d.length)) 0)))) := by
  unfold frameB
  rw [wholeB_len]
  simp [wholeB, headB]
set_option maxHeartbeats 4000000 in
theorem make_bad (k : Nat) (g : Int) (A : Option Addr) (cap : Nat) (d : List Nat) (w : World) (h : makeE g d.length ≠ 0) :
    Calls Try.prog 39 #[.int .u8 (k : Int), .int .i64 g, .slice A d.length cap] w (MakeR k g d w) := by
  have early : ∀ a b c : Bool, decide (g < 0) = a → decide (2147483647 < g) = b → decide (4096 < (d.length : Int)) = c → decide (4096 < d.length) = c → (a = true ∨ b = true ∨ c = true) → (z : Int) → z = (makeE g d.length : Nat) → (z = if (a || b) = true then 1 else 3) →
      Calls Try.prog 39 #[.int .u8 (k : Int), .int .i64 g, .slice A d.length cap] w fun e w' => w' = w ∧ e = .returned (.tuple #[.slice none 0 0, .int .i64 z]) := by
    intro a b c h1 h2 h3 h4 h z _ hz
    cases a <;> cases b <;> cases c <;> first
      | (simp at h; done)
      | (simp at hz
         subst hz
         go_enter Try.func39, Try.ntmps39
         go_wp2_with fail
         go_returns
         exact ⟨rfl, rfl⟩)
  refine (early _ _ _ rfl rfl rfl (by rw [decide_eq_decide]; omega) ?_ _ rfl ?_).mono ?_
  · unfold makeE at h
    by_cases h1 : g < 0 ∨ 2147483647 < g
    · rcases h1 with h1 | h1
      · exact .inl (by simpa using h1)
      · exact .inr (.inl (by simpa using h1))
    · rw [if_neg h1] at h
      by_cases h2 : 4096 < d.length
      · exact .inr (.inr (by simp; omega))
      · rw [if_neg h2] at h; omega
  · unfold makeE at h ⊢
    simp only [Bool.or_eq_true, decide_eq_true_eq]
    by_cases h1 : g < 0 ∨ 2147483647 < g
    · rw [if_pos h1, if_pos h1]; rfl
    · rw [if_neg h1] at h
      rw [if_neg h1, if_neg h1]
      by_cases h2 : 4096 < d.length
      · rw [if_pos h2]; rfl
      · rw [if_neg h2] at h; omega
  · rintro e w' ⟨rfl, rfl⟩
    exact ⟨Below.refl _ _, .inl ⟨h, rfl⟩⟩
theorem splice_byts (P Z F d : List Nat) (hP : P.length = 16) (hZ : Z.length = d.length) : splice (byts (P ++ (Z ++ F))) 16 (byts d) = byts (P ++ (d ++ F)) := by
  unfold splice byts
  rw [List.length_map, ← List.map_take, ← List.map_drop, ← List.map_append, ← List.map_append]
  congr 1
  simp [List.drop_append, hP, hZ]
theorem sl_pos {w : World} {B : Nat} {A : Option Addr} {xs : List Value} (h : Sl w B A xs) (h0 : 0 < xs.length) : ∃ ad, A = some ad ∧ ∀ j v, xs[j]? = some v → w.cell? (ad.add j) = some v := by
  obtain ⟨b, o, e, _, hc⟩ := h.at_ h0
  refine ⟨_, e, fun j v hv => ?_⟩
  have hj : j < xs.length := by
    rcases Nat.lt_or_ge j xs.length with h | h
    · exact h
    · rw [List.getElem?_eq_none h] at hv; cases hv
  rw [Addr.add_lit, hc j hj, ← hv, List.getElem?_eq_getElem hj]
/-- What the last call of Make leaves. -/
def PutD (w : World) (G k g : Nat) (d : List Nat) (w' : World) : Prop := ByBlk w' G (frameB k g d) ∧ Below w.heap.size w w'
set_option maxRecDepth 4000 in
set_option maxHeartbeats 4000000 in
theorem make_good (k : Nat) (hk : k < 256) (g : Nat) (hg : g ≤ 2147483647) (A : Option Addr) (cap : Nat) (d : List Nat) (hd : ∀ x ∈ d, x < 256) (hlen : d.length ≤ 4096) (w : World) {B : Nat} (hsl : Sl w B A (byts d)) (hB : B ≤ w.heap.size) :
    Calls Try.prog 39 #[.int .u8 (k : Int), .int .i64 (g : Int), .slice A d.length cap] w (MakeR k g d w) := by
  obtain ⟨i0, hi0, hz0, hs0, hb0⟩ := byte_parts (P := Try.prog) (e := 5) (by kernel_rfl)
  have q1 : decide ((g : Int) < 0) = false := by simp
  have q2 : decide (2147483647 < (g : Int)) = false := by simp; omega
  have q3 : decide (4096 < (d.length : Int)) = false := by simp; omega
  have q3' : decide (4096 < d.length) = false := by simp; omega
  obtain ⟨T, hT⟩ : ∃ T : Nat, T = (d.length + 79) / 64 := ⟨_, rfl⟩
  have RB : ∀ w, Calls Try.prog 64 #[.int .i64 ((d.length : Nat) : Int)] w fun e w' => e = .returned (.int .i64 (T : Int)) ∧ w' = w := fun w => by
    have := blocks_any (d.length : Nat) (IntWalk.i64_in _ (by omega)) w
    rwa [blk_nat hlen, ← hT] at this
  have hTb : T ≤ 65 := by omega
  obtain ⟨N, hN⟩ : ∃ N : Nat, N = T * 64 := ⟨_, rfl⟩
  have hNi : (T : Int) * 64 = (N : Int) := by omega
  obtain ⟨f, hf⟩ : ∃ f : Nat, f = fill (16 + d.length) := ⟨_, rfl⟩
  have hNf : N = 16 + d.length + f := by rw [hf, hN, hT]; unfold fill; omega
  have mk : ∀ w, (Instr.makeSlice 22 (.int .i64 ((T : Int) * 64)) (.int .i64 ((T : Int) * 64))).run Try.prog w = .ok (.slice (some ⟨w.heap.size, 0, none⟩) N N) (w.alloc (.cells (zcells N) 5)) := fun w => by
    rw [hNi]
    exact make_bytes N (by omega) w
  obtain ⟨G, hG⟩ : ∃ G, G = w.heap.size := ⟨_, rfl⟩
  have hz : List.replicate N 0 = [0, 0, 0, 0] ++ (List.replicate 12 0 ++ (List.replicate d.length 0 ++ List.replicate f 0)) := by
    rw [hNf, ← List.replicate_append_replicate, ← List.replicate_append_replicate]; simp [List.replicate]
  have b0 := byblk_zeros w N
  rw [← hG] at b0
  obtain ⟨w0, hw0⟩ : ∃ w0, w0 = w.alloc (.cells (zcells N) 5) := ⟨_, rfl⟩
  rw [← hw0] at b0
  have hb0w : Below w.heap.size w w0 := by rw [hw0]; exact (Below.refl _ _).alloc (Nat.le_refl _) _
  have c0 := byblk_cell b0 (i := 0) (by rw [List.length_replicate]; omega)
  have c1 := byblk_cell b0 (i := 1) (by rw [List.length_replicate]; omega)
  have c2 := byblk_cell b0 (i := 2) (by rw [List.length_replicate]; omega)
  have f0 := Blk.frozen b0 0
  have f1 := Blk.frozen b0 1
  have f2 := Blk.frozen b0 2
  have b1 := byblk_set b0 0 197 (v := .int .u8 197) rfl
  have b2 := byblk_set b1 1 126 (v := .int .u8 126) rfl
  have b3 := byblk_set b2 2 k (v := .int .u8 (k : Int)) rfl
  have e3 : (((List.replicate N 0).set 0 197).set 1 126).set 2 k = [197, 126, k, 0] ++ ([0, 0, 0, 0] ++ ([0, 0, 0, 0] ++ ([0, 0, 0, 0] ++ (List.replicate d.length 0 ++ List.replicate f 0)))) := by rw [hz]; rfl
  rw [e3] at b3
  have hb3 := ((hb0w.setCell (p := ⟨G, 0, none⟩) (by rw [hG]; exact Nat.le_refl _) (.int .u8 197)).setCell (p := ⟨G, 1, none⟩) (by rw [hG]; exact Nat.le_refl _) (.int .u8 126)).setCell (p := ⟨G, 2, none⟩) (by rw [hG]; exact Nat.le_refl _) (.int .u8 (k : Int))
  have H3 := Lib.hid b3
  have HB3 := Lib.hid hb3
  have Sd := Lib.hid (fun w' (hb : Below w.heap.size w w') => (hsl.below (hb.mono hB)).more (by have := hb.size; omega : B ≤ w'.heap.size))
  have HG := Lib.hid hG
  have HW0 := Lib.hid hw0
  have hG' : w.heap.size = G := hG.symm
  have mk' := mk w
  rw [hG', ← hw0] at mk'
  have RB' := Lib.hid RB
  have cutk : ∀ (j : Nat), 0 < j → j ≤ 16 → ∀ w, (Instr.slice 22 (.slice (some ⟨G, 0, none⟩) N N) (some (.int .i64 (j : Int))) none none).run Try.prog w = .ok (.slice (some ⟨G, j, none⟩) (N - j) (N - j)) w := fun j h0 hj w => by
    have := run_slice_from (P := Try.prog) Try.underlying22 hi0 hs0 (some ⟨G, 0, none⟩) N N j (by omega) w
    rw [this]
    unfold cutA
    rw [if_neg (by omega)]
    simp [Addr.add_lit]
  have cut4 : ∀ w, (Instr.slice 22 (.slice (some ⟨G, 0, none⟩) N N) (some (.int .i64 4)) none none).run Try.prog w = .ok (.slice (some ⟨G, 4, none⟩) (N - 4) (N - 4)) w := cutk 4 (by omega) (by omega)
  have cut8 : ∀ w, (Instr.slice 22 (.slice (some ⟨G, 0, none⟩) N N) (some (.int .i64 8)) none none).run Try.prog w = .ok (.slice (some ⟨G, 8, none⟩) (N - 8) (N - 8)) w := cutk 8 (by omega) (by omega)
  have cut12 : ∀ w, (Instr.slice 22 (.slice (some ⟨G, 0, none⟩) N N) (some (.int .i64 12)) none none).run Try.prog w = .ok (.slice (some ⟨G, 12, none⟩) (N - 12) (N - 12)) w := cutk 12 (by omega) (by omega)
  have cut16 : ∀ w, (Instr.slice 22 (.slice (some ⟨G, 0, none⟩) N N) (some (.int .i64 16)) none none).run Try.prog w = .ok (.slice (some ⟨G, 16, none⟩) (N - 16) (N - 16)) w := cutk 16 (by omega) (by omega)
  have hE : makeE (g : Int) d.length = 0 := by unfold makeE; rw [if_neg (by omega), if_neg (by omega)]
  have hgt : (g : Int).toNat = g := Int.toNat_natCast g
  have HE := Lib.hid hE
  have Hgt := Lib.hid hgt
  have Hf := Lib.hid hf
  have HNf := Lib.hid hNf
  have hN64 : 64 ≤ N := by omega
  have hNb : N ≤ 4160 := by omega
  clear b0 b1 b2 b3 e3 hb3 hb0w hz mk RB hsl hw0 hG hf hNf hNi hN hT cutk hE hgt
  go_enter Try.func39, Try.ntmps39
  go_wp2_with fail
  refine (RB'.out _).mono ?_
  rintro e w1 ⟨rfl, rfl⟩
  go_wp2_with fail
  have hFB : ∀ i, i = G → w1.heap.size ≤ i := by rintro i rfl; exact Nat.le_of_eq hG'
  refine (put_any G 4 (N - 4) (N - 4) [197, 126, k, 0] ([0, 0, 0, 0] ++ ([0, 0, 0, 0] ++ (List.replicate d.length 0 ++ List.replicate f 0))) 0 0 0 0 rfl (by omega) (by omega) g (by omega) H3.out).mono ?_
  rintro e w2 ⟨rfl, h2, ch2⟩
  have h2' : ByBlk w2 G (([197, 126, k, 0] ++ le4 g) ++ ([0, 0, 0, 0] ++ ([0, 0, 0, 0] ++ (List.replicate d.length 0 ++ List.replicate f 0)))) := by rw [List.append_assoc]; exact h2
  have H2 := Lib.hid h2'
  have HB2 := Lib.hid (HB3.out.trans (ch2.below HB3.out.size hFB))
  clear h2 h2' ch2 H3 HB3 c0 c1 c2 f0 f1 f2 HW0
  go_wp2_with fail
  refine (put_any G 8 (N - 8) (N - 8) ([197, 126, k, 0] ++ le4 g) ([0, 0, 0, 0] ++ (List.replicate d.length 0 ++ List.replicate f 0)) 0 0 0 0 (by simp [le4]) (by omega) (by omega) d.length (by omega) H2.out).mono ?_
  rintro e w3 ⟨rfl, h3, ch3⟩
  have h3' : ByBlk w3 G (([197, 126, k, 0] ++ (le4 g ++ (le4 d.length ++ [0, 0, 0, 0]))) ++ (List.replicate d.length 0 ++ List.replicate f 0)) := by simpa only [List.append_assoc] using h3
  have H3 := Lib.hid h3'
  have HB3 := Lib.hid (HB2.out.trans (ch3.below HB2.out.size hFB))
  have S3 := Lib.hid (sl_pos (Sd.out _ HB3.out))
  clear h3 h3' ch3 H2 HB2
  have hP : ([197, 126, k, 0] ++ (le4 g ++ (le4 d.length ++ [0, 0, 0, 0]))).length = 16 := by simp [le4]
  have HP := Lib.hid hP
  have Hfit : Hid (16 + (byts d).length ≤ (byts (([197, 126, k, 0] ++ (le4 g ++ (le4 d.length ++ [0, 0, 0, 0]))) ++ (List.replicate d.length 0 ++ List.replicate f 0))).length) := Lib.hid (by
    rw [byts_length, byts_length, List.length_append, hP, List.length_append, List.length_replicate]; omega)
  have Hmin : Hid ((byts d).length = Nat.min d.length (N - 16)) := Lib.hid (by
    rw [byts_length]
    have := HNf.out
    exact (Nat.min_eq_left (by omega)).symm)
  clear hP
  go_wp2_with ((with_reducible show wpList _ _ _ (⟨some 44, _, _, _, _, _⟩ :: _) _ _); go_loud (refine wpList_copy_splice rfl (.tmp 42) (.tmp 43) _ _ rfl 5 Try.underlying22 byte_sz (some ⟨G, 16, none⟩) A (N - 16) (N - 16) d.length cap rfl rfl G 16 (byts (([197, 126, k, 0] ++ (le4 g ++ (le4 d.length ++ [0, 0, 0, 0]))) ++ (List.replicate d.length 0 ++ List.replicate f 0))) _ H3.out (byts d) Hmin.out (fun h0 => ⟨rfl, S3.out h0⟩) Hfit.out (byts_one d) w1.heap.size w1 HB3.out (Nat.le_of_eq hG') ?_); intro w4 hg4 hb4)
  have h4 : ByBlk w4 G (([197, 126, k, 0] ++ (le4 g ++ (le4 d.length ++ [0, 0, 0, 0]))) ++ (d ++ List.replicate f 0)) := by
    have := hg4.out
    rw [splice_byts _ _ _ _ HP.out (by rw [List.length_replicate])] at this
    exact this
  have h4' : ByBlk w4 G ([197, 126, k, 0] ++ (le4 g ++ (le4 d.length ++ ([0, 0, 0, 0] ++ (d ++ List.replicate f 0))))) := by simpa only [List.append_assoc] using h4
  have h4p : ByBlk w4 G (([197, 126, k, 0] ++ (le4 g ++ le4 d.length)) ++ ([0, 0, 0, 0] ++ (d ++ List.replicate f 0))) := by simpa only [List.append_assoc] using h4
  obtain ⟨L4, hL4⟩ : ∃ L4, L4 = [197, 126, k, 0] ++ (le4 g ++ (le4 d.length ++ ([0, 0, 0, 0] ++ (d ++ List.replicate f 0)))) := ⟨_, rfl⟩
  have hL4n : N = L4.length := by
    have := HNf.out
    rw [hL4]; simp [le4]; omega
  have hL4b : ∀ x ∈ L4, x < 256 := by
    intro x hx
    rw [hL4] at hx
    simp only [List.mem_append, List.mem_cons, List.not_mem_nil, or_false, List.mem_replicate] at hx
    rcases hx with h | h | h | h | h | h
    · omega
    · exact le4_lt _ _ h
    · exact le4_lt _ _ h
    · omega
    · exact hd x h
    · omega
  have hs1 : L4.take 12 ++ (L4.drop 16).take d.length = headB k g d.length ++ d := by
    rw [hL4, head_take, head_drop k g d.length [0, 0, 0, 0] _ rfl, List.take_left]
  obtain ⟨S, hS⟩ : ∃ S, S = sum (headB k g d.length ++ d) := ⟨_, rfl⟩
  have hSb : S < 4294967296 := by rw [hS]; exact more_lt (by decide) _
  have hfrm : frameB k g d = ([197, 126, k, 0] ++ (le4 g ++ le4 d.length)) ++ (le4 S ++ (d ++ List.replicate f 0)) := by
    rw [frame_parts, hS, Hf.out]; simp only [List.append_assoc]
  have h4L : ByBlk w4 G L4 := by rw [hL4]; exact h4'
  have CS : ∀ w', Below w4.heap.size w4 w' → Calls Try.prog 66 #[.slice (some ⟨G, 0, none⟩) N N, .int .i64 ((d.length : Nat) : Int)] w' fun e w'' => e = .returned (.int .u32 (S : Int)) ∧ Below w4.heap.size w4 w'' := fun w' hb => by
    have := checksum_any (some ⟨G, 0, none⟩) N L4 hL4b d.length N hL4n (by omega) (by have := HNf.out; omega) (Nat.le_refl _) (by omega) hb (sl_keep (byblk_sl h4L) hb)
    rwa [hs1, ← hS] at this
  have PT : ∀ w', Below w4.heap.size w4 w' → Calls Try.prog 65 #[.slice (some ⟨G, 12, none⟩) (N - 12) (N - 12), .int .u32 (S : Int)] w' fun e w'' => e = .returned (.tuple #[]) ∧ PutD w1 G k g d w'' := fun w' hb => by
    refine (put_any G 12 (N - 12) (N - 12) ([197, 126, k, 0] ++ (le4 g ++ le4 d.length)) (d ++ List.replicate f 0) 0 0 0 0 (by simp [le4]) (by omega) (by omega) S hSb (byblk_below h4p hb)).mono ?_
    rintro e w'' ⟨rfl, h, ch⟩
    have hbb := hb4.trans (hb.mono hb4.size)
    exact ⟨rfl, by rw [hfrm]; exact h, hbb.trans (ch.below hbb.size hFB)⟩
  have HFN : Hid (N = (frameB k g d).length) := Lib.hid (by
    have := HNf.out
    rw [hfrm]; simp [le4]; omega)
  have HCS := Lib.hid CS
  have HPT := Lib.hid PT
  have hbc : Below w4.heap.size w4 w4 := Below.refl _ _
  have hGle := Lib.hid (Nat.le_of_eq hG')
  clear h4 h4' h4p h4L hL4 hL4n hL4b hs1 hS hfrm CS PT hg4 hb4 HP Hfit Hmin H3 HB3 S3 Sd hd Hf hFB RB' mk' cut4 cut8 cut16 hG' HG
  go_region_with (first
    | (go_at_call 66; ((with_reducible refine (HCS.out _ (by first | exact hbc | exact hbc.drew | exact hbc.drewN _)).mono ?_); rintro e w' ⟨rfl, hbc⟩))
    | (go_at_call 65; ((with_reducible refine (HPT.out _ (by first | exact hbc | exact hbc.drew | exact hbc.drewN _)).mono ?_); rintro e w' ⟨rfl, hfin⟩)))
  all_goals
    go_wp2_with fail
    go_returns
    refine ⟨hfin.2, .inr ⟨HE.out, some ⟨G, 0, none⟩, N, ?_, ?_⟩⟩
    · rw [Hgt.out, ← HFN.out]; rfl
    · rw [Hgt.out, ← HFN.out]
      exact byblk_own hfin.1 hGle.out HFN.out (by unfold maxLen; omega)
theorem make_any (k : Nat) (hk : k < 256) (g : Int) (A : Option Addr) (cap : Nat) (d : List Nat) (hd : ∀ x ∈ d, x < 256) (w : World) {B : Nat} (hsl : Sl w B A (byts d)) (hB : B ≤ w.heap.size) :
    Calls Try.prog 39 #[.int .u8 (k : Int), .int .i64 g, .slice A d.length cap] w (MakeR k g d w) := by
  by_cases h : makeE g d.length = 0
  · have h' := h
    unfold makeE at h'
    by_cases h1 : g < 0 ∨ 2147483647 < g
    · rw [if_pos h1] at h'; omega
    · rw [if_neg h1] at h'
      by_cases h2 : 4096 < d.length
      · rw [if_pos h2] at h'; omega
      · obtain ⟨n, rfl⟩ : ∃ n : Nat, g = n := ⟨g.toNat, by omega⟩
        exact make_good k hk n (by omega) A cap d hd (by omega) w hsl hB
  · exact make_bad k g A cap d w h
end Go.Proofs.Ytaainefdjbmekaa
