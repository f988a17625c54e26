/- What a frame says, and what a frame that was changed says. The program's Open. Slices of bytes that may be read, and what the program's and the document's functions do on them; the statements' own check that the program is awake holds. -/
import Derived.Test.YtaainefdjbmekaaSbba
import Derived.Test.YtaainefdjbmekaaSbdb
import Derived.Test.YtaainefdjbmekaaSbec
import Derived.Test.YtaainefdjbmekaaSbed
namespace Go.Proofs.Ytaainefdjbmekaa
open Go.RowKit Crc
section
variable {k g : Nat} {d : List Nat}
theorem fr_len (k g : Nat) (d : List Nat) : (frameB k g d).length = 16 + d.length + fill (16 + d.length) := by
  rw [frame_parts]; simp [le4]; omega
theorem fr_fill (n : Nat) : (16 + n + fill (16 + n)) = (n + 79) / 64 * 64 := by unfold fill; omega
theorem fr_g4 (hg : g < 4294967296) : g4 (frameB k g d) 4 = g := by
  rw [frame_parts]
  exact g4_le hg [197, 126, k, 0] _
theorem fr_g8 (hd : d.length < 4294967296) : g4 (frameB k g d) 8 = d.length := by
  rw [frame_parts, ← List.append_assoc]
  exact g4_le hd ([197, 126, k, 0] ++ le4 g) _
theorem fr_g12 : g4 (frameB k g d) 12 = sum (headB k g d.length ++ d) := by
  rw [frame_parts, ← List.append_assoc, ← List.append_assoc]
  exact g4_le (more_lt (by decide) _) (([197, 126, k, 0] ++ le4 g) ++ le4 d.length) _
theorem fr_0 : (frameB k g d).getD 0 0 = 197 := by rw [frame_parts]; rfl
theorem fr_1 : (frameB k g d).getD 1 0 = 126 := by rw [frame_parts]; rfl
theorem fr_2 : (frameB k g d).getD 2 0 = k := by rw [frame_parts]; rfl
theorem fr_3 : (frameB k g d).getD 3 0 = 0 := by rw [frame_parts]; rfl
theorem fr_head (hg : g ≤ 2147483647) (hd : d.length ≤ 4096) : ¬ badHead (frameB k g d) := by
  unfold badHead
  rw [fr_0, fr_1, fr_3, fr_g4 (by omega), fr_g8 (by omega)]
  omega
theorem sizeE_zero {l : List Nat} (h : 16 ≤ l.length) (hb : ¬ badHead l) : sizeE l = 0 := by
  unfold sizeE
  rw [if_neg (by omega), if_neg hb]
theorem fr_sizeE (hg : g ≤ 2147483647) (hd : d.length ≤ 4096) : sizeE (frameB k g d) = 0 := sizeE_zero (by rw [fr_len]; omega) (fr_head hg hd)
theorem fr_blk (hd : d.length ≤ 4096) : blk (g4 (frameB k g d) 8) * 64 = (frameB k g d).length := by
  rw [fr_g8 (by omega), blk_nat hd, fr_len, fr_fill]
theorem fr_drop : (frameB k g d).drop 16 = d ++ List.replicate (fill (16 + d.length)) 0 := by
  rw [frame_parts]
  exact head_drop k g d.length _ _ rfl
theorem fr_take : (frameB k g d).take 12 = headB k g d.length := by
  rw [frame_parts]
  exact head_take k g d.length _
theorem fr_data (hd : d.length < 4294967296) : dataB (frameB k g d) = d := by
  unfold dataB
  rw [fr_g8 hd, fr_drop, List.take_left]
theorem fr_sum (hd : d.length < 4294967296) : sumB (frameB k g d) = g4 (frameB k g d) 12 := by
  unfold sumB
  rw [fr_data hd, fr_take, fr_g12]
theorem fr_tail (hd : d.length < 4294967296) : tailBad (frameB k g d) (frameB k g d).length = false := by
  unfold tailBad
  rw [List.take_length, fr_g8 hd, ← List.drop_drop, fr_drop, List.drop_left, List.any_replicate]
  simp
theorem fr_open (hg : g ≤ 2147483647) (hd : d.length ≤ 4096) (k' : Nat) : openE (frameB k g d) k' = if k ≠ k' then 4 else 0 := by
  unfold openE
  rw [fr_sizeE hg hd, if_neg (by omega), fr_blk hd, if_neg (by omega), if_neg (by omega), fr_sum (by omega), fr_tail (by omega), fr_2]
  simp
end
end Go.Proofs.Ytaainefdjbmekaa
namespace Go.Proofs.Ytaainefdjbmekaa
open Go.RowKit Crc
theorem tail_blank (l : List Nat) : tailBad l l.length = !blankB (l.drop (16 + g4 l 8)) := by
  unfold tailBad blankB
  rw [List.take_length, List.not_all_eq_any_not]
  rfl
/-- blank behind the data. -/
theorem blank_at (A : Option Addr) (cap : Nat) (l : List Nat) (hl : ∀ x ∈ l, x < 256) (k n : Nat) (hk : k ≤ l.length) (hn : n = l.length - k) (hcap : l.length ≤ cap) (hlen : l.length ≤ 1000000000) {w : World} {B : Nat} (hsl : Sl w B A (byts l)) :
    Calls Try.prog 69 #[.slice (cutA A cap k) n (cap - k)] w fun e w' => e = .returned (.bool (blankB (l.drop k))) ∧ w' = w :=
  blank_any (cutA A cap k) (cap - k) (l.drop k) (fun x hx => hl x (List.mem_of_mem_drop hx)) n (by rw [hn, List.length_drop]) (by omega) (by rw [← byts_drop]; exact hsl.from (by rw [byts_length]; exact hcap))
set_option maxHeartbeats 4000000 in
theorem open_bad (A : Option Addr) (cap : Nat) (l : List Nat) (kind : Nat) (hl : ∀ x ∈ l, x < 256) (hcap : l.length ≤ cap) (hlen : l.length ≤ 1000000000) {w : World} {B : Nat} (hsl : Sl w B A (byts l)) (h : sizeE l ≠ 0) :
    Calls Try.prog 40 #[.slice A l.length cap, .int .u8 (kind : Int)] w (OpenR l kind w) := by
  have hE : openE l kind = sizeE l := by unfold openE; rw [if_pos h]
  have N := header_any A cap l hl hcap hlen hsl
  unfold HeadR at N
  rw [headV_bad h] at N
  unfold OpenR
  rw [hE]
  have hne : ((sizeE l : Int) != 0) = true := by simp; omega
  have hne' : (sizeE l != 0) = true := by simp; omega
  have H := Lib.hid h
  have N' := Lib.hid N
  clear h N hE hl hsl hcap hlen
  generalize sizeE l = z at *
  generalize l.length = n at *
  go_enter Try.func40, Try.ntmps40
  go_wp2_with fail
  refine N'.out.mono ?_
  rintro e w1 ⟨rfl, n1, rfl⟩
  go_wp2_with fail
  go_returns
  exact ⟨drewN_below n1, .inl ⟨H.out, rfl⟩⟩
set_option maxRecDepth 4000 in
set_option maxHeartbeats 4000000 in
theorem open_good (A : Option Addr) (cap : Nat) (l : List Nat) (kind : Nat) (hl : ∀ x ∈ l, x < 256) (hlen : l.length ≤ 1000000000) (hcap : l.length ≤ cap) (hA : A = none → cap = 0) {w : World} {B : Nat} (hsl : Sl w B A (byts l)) (hB : B ≤ w.heap.size) (h : sizeE l = 0) :
    Calls Try.prog 40 #[.slice A l.length cap, .int .u8 (kind : Int)] w (OpenR l kind w) := by
  have h16 : 16 ≤ l.length ∧ ¬ badHead l := by
    rcases sizeE_cases l with h' | ⟨_, h1, h2⟩
    · exact absurd h h'
    · exact ⟨h1, h2⟩
  obtain ⟨h16, hbh⟩ := h16
  have hm : g4 l 8 ≤ 4096 := by
    unfold badHead at hbh
    omega
  have N := header_any A cap l hl hcap hlen hsl
  unfold HeadR at N
  rw [headV_good h] at N
  have hE : openE l kind = if (g4 l 8 + 79) / 64 * 64 < l.length then 3 else if l.length < (g4 l 8 + 79) / 64 * 64 then 2 else if (g4 l 12 != sumB l || tailBad l l.length) = true then 5 else if l.getD 2 0 ≠ kind then 4 else 0 := by
    unfold openE
    rw [if_neg (by omega), blk_nat hm]
  have RB : ∀ w, Calls Try.prog 64 #[.int .i64 ((g4 l 8 : Nat) : Int)] w fun e w' => e = .returned (.int .i64 (((g4 l 8 + 79) / 64 : Nat) : Int)) ∧ w' = w := fun w => by
    have := blocks_any (g4 l 8 : Nat) (IntWalk.i64_in _ (by omega)) w
    rwa [blk_nat hm] at this
  have N' := Lib.hid N
  have hsw : ∀ w', Below w.heap.size w w' → Sl w' w'.heap.size A (byts l) := fun w' hb => (hsl.below (hb.mono hB)).more (by have := hb.size; omega)
  have Sw := Lib.hid hsw
  clear N h hbh hsl hsw
  obtain ⟨T, hT⟩ : ∃ T, T = (g4 l 8 + 79) / 64 := ⟨_, rfl⟩
  rw [← hT] at hE RB
  have RB' := Lib.hid RB
  have HT := Lib.hid hT
  have HE := Lib.hid hE
  have hTb : T ≤ 65 := by omega
  clear hT hE RB
  by_cases h1 : T * 64 < l.length
  · have q1 : decide (T * 64 < l.length) = true := by simpa using h1
    have q1' : decide ((T : Int) * 64 < (l.length : Int)) = true := by simp; omega
    have e : openE l kind = 3 := by rw [HE.out, if_pos h1]
    unfold OpenR
    rw [e]
    clear e HE HT h1 hl hA Sw
    generalize l.length = n at *
    go_enter Try.func40, Try.ntmps40
    go_wp2_with fail
    refine N'.out.mono ?_
    rintro e w1 ⟨rfl, n1, rfl⟩
    go_wp2_with fail
    refine (RB'.out _).mono ?_
    rintro e w2 ⟨rfl, rfl⟩
    go_wp2_with fail
    go_returns
    exact ⟨drewN_below n1, .inl ⟨by decide, rfl⟩⟩
  have q1 : decide (T * 64 < l.length) = false := by simpa using h1
  have q1' : decide ((T : Int) * 64 < (l.length : Int)) = false := by simp; omega
  by_cases h2 : l.length < T * 64
  · have q2 : decide (l.length < T * 64) = true := by simpa using h2
    have q2' : decide ((l.length : Int) < (T : Int) * 64) = true := by simp; omega
    have e : openE l kind = 2 := by rw [HE.out, if_neg h1, if_pos h2]
    unfold OpenR
    rw [e]
    clear e HE HT h1 h2 hl hA Sw
    generalize l.length = n at *
    go_enter Try.func40, Try.ntmps40
    go_wp2_with fail
    refine N'.out.mono ?_
    rintro e w1 ⟨rfl, n1, rfl⟩
    go_wp2_with fail
    refine (RB'.out _).mono ?_
    rintro e w2 ⟨rfl, rfl⟩
    go_wp2_with fail
    go_returns
    exact ⟨drewN_below n1, .inl ⟨by decide, rfl⟩⟩
  have q2 : decide (l.length < T * 64) = false := by simpa using h2
  have q2' : decide ((l.length : Int) < (T : Int) * 64) = false := by simp; omega
  have hE2 : openE l kind = if (g4 l 12 != sumB l || tailBad l l.length) = true then 5 else if l.getD 2 0 ≠ kind then 4 else 0 := by rw [HE.out, if_neg h1, if_neg h2]
  have hmn : 16 + g4 l 8 ≤ l.length := by have := HT.out; omega
  have HE2 := Lib.hid hE2
  clear hE2 HE HT h1 h2
  obtain ⟨i0, hi0, hz0, hs0, hb0⟩ := byte_parts (P := Try.prog) (e := 5) (by kernel_rfl)
  obtain ⟨T2, hT2⟩ : ∃ T2 : Nat, T2 = 16 + g4 l 8 := ⟨_, rfl⟩
  have hcut : ∀ w, (Instr.slice 22 (.slice A l.length cap) (some (.int .i64 16)) (some (.int .i64 (16 + ((g4 l 8 : Nat) : Int)))) none).run Try.prog w = .ok (.slice (cutA A cap 16) (g4 l 8) (cap - 16)) w := fun w => by
    have := run_slice_mid (P := Try.prog) Try.underlying22 hi0 hs0 A l.length cap 16 (16 + g4 l 8) (by omega) (by omega) w
    rw [show 16 + g4 l 8 - 16 = g4 l 8 by omega, Int.natCast_add] at this
    exact this
  have hcut12 : ∀ w, (Instr.slice 22 (.slice A l.length cap) (some (.int .i64 12)) none none).run Try.prog w = .ok (.slice (cutA A cap 12) (l.length - 12) (cap - 12)) w := fun w => run_slice_from (P := Try.prog) Try.underlying22 hi0 hs0 A l.length cap 12 (by omega) w
  have hcutT : ∀ w, (Instr.slice 22 (.slice A l.length cap) (some (.int .i64 (16 + ((g4 l 8 : Nat) : Int)))) none none).run Try.prog w = .ok (.slice (cutA A cap T2) (l.length - T2) (cap - T2)) w := fun w => by
    have := run_slice_from (P := Try.prog) Try.underlying22 hi0 hs0 A l.length cap T2 (by omega) w
    rwa [show ((T2 : Nat) : Int) = 16 + ((g4 l 8 : Nat) : Int) by omega] at this
  have Cnum := Lib.hid (fun W hW => num_at A cap l hl 12 (by omega) hcap hlen (Sw.out W hW))
  have Csum := Lib.hid (fun W (hW : Below w.heap.size w W) => checksum_any A cap l hl (g4 l 8) l.length rfl (by omega) hmn hcap hlen hW (Sw.out W hW))
  have Cbl := Lib.hid (fun W hW => blank_at A cap l hl T2 (l.length - T2) (by omega) rfl hcap hlen (Sw.out W hW))
  have hdl := dataB_len hmn
  have hcA : cutA A cap 16 = none → cap - 16 = 0 := by
    unfold cutA
    by_cases hck : cap = 16
    · omega
    · rw [if_neg hck]
      intro hh
      cases A with
      | none => have := hA rfl; omega
      | some a => simp at hh
  have Ccl := Lib.hid (fun W (hW : Below w.heap.size w W) => bclone_any (cutA A cap 16) (cap - 16) (dataB l) W (B := W.heap.size) (by
    unfold dataB
    rw [← byts_take, ← byts_drop]
    exact ((Sw.out W hW).from (by rw [byts_length]; exact hcap)).to _) (Nat.le_refl _) (by rw [hdl]; omega) hcA (by rw [hdl]; omega))
  have hsb := sumB_lt l
  have hg12 := g4_lt hl 12
  have hg4 := g4_lt hl 4
  obtain ⟨β, pβ⟩ : ∃ β, (((g4 l 12 : Nat) : Int) != ((sumB l : Nat) : Int)) = β := ⟨_, rfl⟩
  have Hβ : Hid ((g4 l 12 != sumB l) = β) := Lib.hid (by rw [← pβ, Bool.eq_iff_iff, bne_iff_ne, bne_iff_ne]; omega)
  obtain ⟨γ, pγ⟩ : ∃ γ, blankB (l.drop T2) = γ := ⟨_, rfl⟩
  have hE3 : openE l kind = if (β || !γ) = true then 5 else if l.getD 2 0 ≠ kind then 4 else 0 := by rw [HE2.out, Hβ.out, tail_blank, ← hT2, pγ]
  have HE3 := Lib.hid hE3
  clear HE2 Hβ hE3
  have Hs : Hid (sum (l.take 12 ++ (l.drop 16).take (g4 l 8)) = sumB l) := Lib.hid rfl
  rw [Hs.out] at Csum
  rw [pγ] at Cbl
  rw [hdl] at Ccl
  obtain ⟨b, o, rfl, c2⟩ := sl_cell (Sw.out w (Below.refl _ _)) (k := 2) (by omega)
  have hx2 := getB_lt hl 2
  have hblt : b < w.heap.size := by
    rcases Sw.out w (Below.refl _ _) with h0 | ⟨b', o', e, hlt, _⟩
    · have := congrArg List.length h0
      rw [byts_length, List.length_nil] at this
      omega
    · have : b' = b := by injection e with e; injection e with e; exact e.symm
      omega
  have cell2 : ∀ W, Below w.heap.size w W → W.cell? ⟨b, o + 2, none⟩ = some (.int .u8 ((l.getD 2 0 : Nat) : Int)) := fun W hW => (hW.cell (p := ⟨b, o + 2, none⟩) hblt).trans c2
  have Hcell := Lib.hid cell2
  clear c2 Sw hA Hs pγ hl cell2
  have Hm := Lib.hid hm
  have hT2b : T2 ≤ 4112 := by omega
  have HT2 := Lib.hid hT2
  clear hT2
  have hwr : IntKind.i64.wrap ((16 : Int) + ((g4 l 8 : Nat) : Int)) = (16 : Int) + ((g4 l 8 : Nat) : Int) := IntWalk.i64_in _ (by omega)
  unfold OpenR
  have Hdd := Lib.hid hdl
  clear hdl
  generalize l.getD 2 0 = x2 at *
  generalize openE l kind = E at *
  generalize dataB l = D at *
  generalize sumB l = S at *
  generalize g4 l 12 = y12 at *
  generalize g4 l 4 = y4 at *
  generalize g4 l 8 = m at *
  generalize l.length = n at *
  clear hmn
  generalize cutA (some ⟨b, o, none⟩) cap 16 = A16 at *
  generalize cutA (some ⟨b, o, none⟩) cap 12 = A12 at *
  generalize cutA (some ⟨b, o, none⟩) cap T2 = AT at *
  go_enter Try.func40, Try.ntmps40
  go_wp2_with fail
  refine N'.out.mono ?_
  rintro e w1 ⟨rfl, n1, rfl⟩
  have hb1 : Below w.heap.size w (w.drewN n1) := drewN_below n1
  have HB1 := Lib.hid hb1
  clear hb1
  generalize w.drewN n1 = W1 at *
  go_wp2_with fail
  refine (RB'.out _).mono ?_
  rintro e w2 ⟨rfl, rfl⟩
  go_wp2_with fail
  refine (Cnum.out _ HB1.out).mono ?_
  rintro e w3 ⟨rfl, rfl⟩
  go_wp2_with fail
  refine (Csum.out _ HB1.out).mono ?_
  rintro e w4 ⟨rfl, hb4⟩
  have HB4 := Lib.hid hb4
  clear hb4 HB1
  cases β with
  | true =>
    have he : E = 5 := by rw [HE3.out]; rfl
    have HE4 := Lib.hid he
    clear he HE3
    go_wp2_with fail
    go_returns
    exact ⟨HB4.out, .inl ⟨fun h => absurd (HE4.out.symm.trans h) (by decide), by rw [HE4.out]; rfl⟩⟩
  | false =>
  go_wp2_with fail
  refine (Cbl.out _ HB4.out).mono ?_
  rintro e w5 ⟨rfl, rfl⟩
  cases γ with
  | false =>
    have he : E = 5 := by rw [HE3.out]; rfl
    have HE4 := Lib.hid he
    clear he HE3
    go_wp2_with fail
    go_returns
    exact ⟨HB4.out, .inl ⟨fun h => absurd (HE4.out.symm.trans h) (by decide), by rw [HE4.out]; rfl⟩⟩
  | true =>
  have cx := Hcell.out _ HB4.out
  clear Hcell
  by_cases hkk : x2 = kind
  · have p1 : ((x2 : Int) != (kind : Int)) = false := by simp; omega
    have p2 : (x2 != kind) = false := by simp; omega
    have e0 : E = 0 := by rw [HE3.out, if_neg (by decide), if_neg (by omega)]
    have HE4 := Lib.hid e0
    clear HE3 e0 hkk
    go_wp2_with fail
    refine (Ccl.out _ HB4.out).mono ?_
    rintro e w6 ⟨A6, c6, rfl, hown, hb6⟩
    rw [Hdd.out] at hown
    have Ho := Lib.hid hown
    have HB6 := Lib.hid (HB4.out.trans (hb6.mono HB4.out.size))
    clear hown hb6
    go_wp2_with fail
    go_returns
    exact ⟨HB6.out, .inr ⟨HE4.out, A6, c6, by rw [Hdd.out]; rfl, World.ownsRow_base Ho.out HB4.out.size⟩⟩
  · have p1 : ((x2 : Int) != (kind : Int)) = true := by simp; omega
    have p2 : (x2 != kind) = true := by simp; omega
    have e0 : E = 4 := by rw [HE3.out, if_neg (by decide), if_pos hkk]
    have HE4 := Lib.hid e0
    clear HE3 e0 hkk
    go_wp2_with fail
    go_returns
    exact ⟨HB4.out, .inl ⟨fun h => absurd (HE4.out.symm.trans h) (by decide), by rw [HE4.out]; rfl⟩⟩
theorem open_any (A : Option Addr) (cap : Nat) (l : List Nat) (kind : Nat) (hl : ∀ x ∈ l, x < 256) (hlen : l.length ≤ 1000000000) (hcap : l.length ≤ cap) (hA : A = none → cap = 0) {w : World} {B : Nat} (hsl : Sl w B A (byts l)) (hB : B ≤ w.heap.size) :
    Calls Try.prog 40 #[.slice A l.length cap, .int .u8 (kind : Int)] w (OpenR l kind w) := by
  by_cases h : sizeE l = 0
  · exact open_good A cap l kind hl hlen hcap hA hsl hB h
  · exact open_bad A cap l kind hl hcap hlen hsl h
end Go.Proofs.Ytaainefdjbmekaa
namespace Go.Proofs.Ytaainefdjbmekaa
open Go.RowKit Crc
section
variable {w w' : World} {A : Option Addr} {c : Nat} {l d : List Nat}
/-- How Make ends where it makes a frame. -/
def MakeOk (k g : Nat) (d : List Nat) (w : World) (e : Ending) (w' : World) : Prop :=
  ∃ A c, e = .returned (.tuple #[.slice A (frameB k g d).length c, .int .i64 0]) ∧ By w' A c (frameB k g d) ∧ Below w.heap.size w w' ∧ w'.ownsRow w.heap.size 5 1 (.slice A (frameB k g d).length c) (frameB k g d).length (byts (frameB k g d))
theorem makeE_ok {g : Nat} {n : Nat} (hg : g ≤ 2147483647) (hn : n ≤ 4096) : makeE (g : Int) n = 0 := by unfold makeE; rw [if_neg (by omega), if_neg (by omega)]
theorem frame_small {k g : Nat} {d : List Nat} (hd : d.length ≤ 4096) : (frameB k g d).length ≤ 4160 := by rw [fr_len]; unfold fill; omega
theorem makeR_ok {k g : Nat} {d : List Nat} {w w' : World} {e : Ending} (hk : k < 256) (hg : g ≤ 2147483647) (hb : ∀ x ∈ d, x < 256) (hd : d.length ≤ 4096) (h : MakeR k (g : Int) d w e w') : MakeOk k g d w e w' := by
  obtain ⟨hbl, ⟨h1, _⟩ | ⟨_, A, c, he, hown⟩⟩ := h
  · exact absurd (makeE_ok hg hd) h1
  · rw [Int.toNat_natCast] at he hown
    exact ⟨A, c, he, By.of_own hown (frameB_lt hk g hb) (by have := frame_small (k := k) (g := g) hd; omega), hbl, hown⟩
theorem make_by (k : Nat) (hk : k < 256) (z : Int) (hz : z = (k : Int)) (g : Nat) (gz : Int) (hgz : gz = (g : Int)) (hg : g ≤ 2147483647) (h : By w A c d) (hd : d.length ≤ 4096) (n : Nat) (hn : n = d.length) :
    Calls Try.prog 39 #[.int .u8 z, .int .i64 gz, .slice A n c] w (MakeOk k g d w) := by
  subst hz; subst hgz; subst hn
  exact (make_any k hk g A c d h.lt w h.sl (Nat.le_refl _)).mono fun e w' h' => makeR_ok hk hg h.lt hd h'
/-- How Open ends where it finds none. -/
def OpenOk (g : Nat) (d : List Nat) (w : World) (e : Ending) (w' : World) : Prop :=
  ∃ A c, e = .returned (.tuple #[.int .i64 (g : Int), .slice A d.length c, .int .i64 0]) ∧ By w' A c d ∧ Below w.heap.size w w'
theorem openE_len {l : List Nat} {kind : Nat} (h : openE l kind = 0) : 16 + g4 l 8 ≤ l.length ∧ g4 l 8 ≤ 4096 := by
  unfold openE at h
  by_cases hs : sizeE l ≠ 0
  · rw [if_pos hs] at h; omega
  · rw [if_neg hs] at h
    obtain ⟨_, _, hb⟩ := (sizeE_cases l).resolve_left hs
    unfold badHead at hb
    have hm : g4 l 8 ≤ 4096 := by omega
    by_cases h1 : blk (g4 l 8) * 64 < l.length
    · rw [if_pos h1] at h; omega
    · rw [if_neg h1] at h
      by_cases h2 : l.length < blk (g4 l 8) * 64
      · rw [if_pos h2] at h; omega
      · rw [blk_nat hm] at h1 h2
        omega
theorem openR_ok {l : List Nat} {kind : Nat} {w w' : World} {e : Ending} (hl : ∀ x ∈ l, x < 256) (hE : openE l kind = 0) (h : OpenR l kind w e w') : OpenOk (g4 l 4) (dataB l) w e w' := by
  obtain ⟨h16, hm⟩ := openE_len hE
  have hdl := dataB_len h16
  obtain ⟨hbl, ⟨h1, _⟩ | ⟨_, A, c, he, hown⟩⟩ := h
  · omega
  · exact ⟨A, c, by rw [he, hdl], By.of_own hown (fun x hx => hl x (List.mem_of_mem_drop (List.mem_of_mem_take hx))) (by omega), hbl⟩
theorem open_by (h : By w A c l) (kind : Nat) (z : Int) (hz : z = (kind : Int)) (n : Nat) (hn : n = l.length) :
    Calls Try.prog 40 #[.slice A n c, .int .u8 z] w (OpenR l kind w) := by
  subst hz; subst hn
  exact open_any A c l kind h.lt (by have := h.len; omega) h.cap h.nil h.sl (Nat.le_refl _)
theorem open_frame {k g : Nat} (hg : g ≤ 2147483647) (hd : d.length ≤ 4096) (h : By w A c (frameB k g d)) (z : Int) (hz : z = (k : Int)) (n : Nat) (hn : n = (frameB k g d).length) :
    Calls Try.prog 40 #[.slice A n c, .int .u8 z] w (OpenOk g d w) := by
  have hE : openE (frameB k g d) k = 0 := by rw [fr_open hg hd]; simp
  refine (open_by h k z hz n hn).mono fun e w' h' => ?_
  have := openR_ok h.lt hE h'
  rwa [fr_g4 (by omega), fr_data (by omega)] at this
theorem blocks_lit (z : Int) (hz : IntKind.i64.wrap z = z) (m : Int) (hm : m = ((blk z : Nat) : Int)) (w : World) : Calls Try.prog 64 #[.int .i64 z] w fun e w' => e = .returned (.int .i64 m) ∧ w' = w := by
  subst hm
  exact blocks_any z hz w
end
end Go.Proofs.Ytaainefdjbmekaa
