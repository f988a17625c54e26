/- The program's Open. -/
import Derived.Test.YtpicalkcgioimaaLhead
import Derived.Test.YtpicalkcgioimaaRopen2
namespace Go.Proofs.Ytpicalkcgioimaa
open Go.RowKit Crc

theorem tail_blank (l : List Nat) : tailBad l l.length = !blankB (l.drop (16 + g4 l 8)) := by
  unfold tailBad blankB
  rw [List.take_length, List.not_all_eq_any_not]
  rfl
/-- blank behind the data. -/
theorem blank_at (A : Option Addr) (cap : Nat) (l : List Nat) (hl : ∀ x ∈ l, x < 256) (k n : Nat) (hk : k ≤ l.length) (hn : n = l.length - k) (hcap : l.length ≤ cap) (hlen : l.length ≤ 1000000000) {w : World} {B : Nat} (hsl : Sl w B A (byts l)) :
    Calls Try.prog 26 #[.slice (cutA A cap k) n (cap - k)] w fun e w' => e = .returned (.bool (blankB (l.drop k))) ∧ w' = w :=
  blank_any (cutA A cap k) (cap - k) (l.drop k) (fun x hx => hl x (List.mem_of_mem_drop hx)) n (by rw [hn, List.length_drop]) (by omega) (by rw [← byts_drop]; exact hsl.from (by rw [byts_length]; exact hcap))

set_option maxHeartbeats 4000000 in
theorem open_bad (A : Option Addr) (cap : Nat) (l : List Nat) (kind : Nat) (hl : ∀ x ∈ l, x < 256) (hcap : l.length ≤ cap) (hlen : l.length ≤ 1000000000) {w : World} {B : Nat} (hsl : Sl w B A (byts l)) (h : sizeE l ≠ 0) :
    Calls Try.prog 14 #[.slice A l.length cap, .int .u8 (kind : Int)] w (OpenR l kind w) := by
  have hE : openE l kind = sizeE l := by unfold openE; rw [if_pos h]
  have N := header_any A cap l hl hcap hlen hsl
  unfold HeadR at N
  rw [headV_bad h] at N
  unfold OpenR
  rw [hE]
  have hne : ((sizeE l : Int) != 0) = true := by simp; omega
  have hne' : (sizeE l != 0) = true := by simp; omega
  have H := Lib.hid h
  have N' := Lib.hid N
  clear h N hE hl hsl hcap hlen
  generalize sizeE l = z at *
  generalize l.length = n at *
  go_enter Try.func14, Try.ntmps14
  go_wp2_with fail
  refine N'.out.mono ?_
  rintro e w1 ⟨rfl, n1, rfl⟩
  go_wp2_with fail
  go_returns
  exact ⟨drewN_below n1, .inl ⟨H.out, rfl⟩⟩

set_option maxRecDepth 4000 in
set_option maxHeartbeats 4000000 in
theorem open_good (A : Option Addr) (cap : Nat) (l : List Nat) (kind : Nat) (hl : ∀ x ∈ l, x < 256) (hlen : l.length ≤ 1000000000) (hcap : l.length ≤ cap) (hA : A = none → cap = 0) {w : World} {B : Nat} (hsl : Sl w B A (byts l)) (hB : B ≤ w.heap.size) (h : sizeE l = 0) :
    Calls Try.prog 14 #[.slice A l.length cap, .int .u8 (kind : Int)] w (OpenR l kind w) := by
  have h16 : 16 ≤ l.length ∧ ¬ badHead l := by
    rcases sizeE_cases l with h' | ⟨_, h1, h2⟩
    · exact absurd h h'
    · exact ⟨h1, h2⟩
  obtain ⟨h16, hbh⟩ := h16
  have hm : g4 l 8 ≤ 4096 := by
    unfold badHead at hbh
    omega
  have N := header_any A cap l hl hcap hlen hsl
  unfold HeadR at N
  rw [headV_good h] at N
  have hE : openE l kind = if (g4 l 8 + 79) / 64 * 64 < l.length then 3 else if l.length < (g4 l 8 + 79) / 64 * 64 then 2 else if (g4 l 12 != sumB l || tailBad l l.length) = true then 5 else if l.getD 2 0 ≠ kind then 4 else 0 := by
    unfold openE
    rw [if_neg (by omega), blk_nat hm]
  have RB : ∀ w, Calls Try.prog 12 #[.int .i64 ((g4 l 8 : Nat) : Int)] w fun e w' => e = .returned (.int .i64 (((g4 l 8 + 79) / 64 : Nat) : Int)) ∧ w' = w := fun w => by
    have := blocks_any (g4 l 8 : Nat) (IntWalk.i64_in _ (by omega)) w
    rwa [blk_nat hm] at this
  have N' := Lib.hid N
  have hsw : ∀ w', Below w.heap.size w w' → Sl w' w'.heap.size A (byts l) := fun w' hb => (hsl.below (hb.mono hB)).more (by have := hb.size; omega)
  have Sw := Lib.hid hsw
  clear N h hbh hsl hsw
  obtain ⟨T, hT⟩ : ∃ T, T = (g4 l 8 + 79) / 64 := ⟨_, rfl⟩
  rw [← hT] at hE RB
  have RB' := Lib.hid RB
  have HT := Lib.hid hT
  have HE := Lib.hid hE
  have hTb : T ≤ 65 := by omega
  clear hT hE RB
  by_cases h1 : T * 64 < l.length
  · have q1 : decide (T * 64 < l.length) = true := by simpa using h1
    have q1' : decide ((T : Int) * 64 < (l.length : Int)) = true := by simp; omega
    have e : openE l kind = 3 := by rw [HE.out, if_pos h1]
    unfold OpenR
    rw [e]
    clear e HE HT h1 hl hA Sw
    generalize l.length = n at *
    go_enter Try.func14, Try.ntmps14
    go_wp2_with fail
    refine N'.out.mono ?_
    rintro e w1 ⟨rfl, n1, rfl⟩
    go_wp2_with fail
    refine (RB'.out _).mono ?_
    rintro e w2 ⟨rfl, rfl⟩
    go_wp2_with fail
    go_returns
    exact ⟨drewN_below n1, .inl ⟨by decide, rfl⟩⟩
  have q1 : decide (T * 64 < l.length) = false := by simpa using h1
  have q1' : decide ((T : Int) * 64 < (l.length : Int)) = false := by simp; omega
  by_cases h2 : l.length < T * 64
  · have q2 : decide (l.length < T * 64) = true := by simpa using h2
    have q2' : decide ((l.length : Int) < (T : Int) * 64) = true := by simp; omega
    have e : openE l kind = 2 := by rw [HE.out, if_neg h1, if_pos h2]
    unfold OpenR
    rw [e]
    clear e HE HT h1 h2 hl hA Sw
    generalize l.length = n at *
    go_enter Try.func14, Try.ntmps14
    go_wp2_with fail
    refine N'.out.mono ?_
    rintro e w1 ⟨rfl, n1, rfl⟩
    go_wp2_with fail
    refine (RB'.out _).mono ?_
    rintro e w2 ⟨rfl, rfl⟩
    go_wp2_with fail
    go_returns
    exact ⟨drewN_below n1, .inl ⟨by decide, rfl⟩⟩
  have q2 : decide (l.length < T * 64) = false := by simpa using h2
  have q2' : decide ((l.length : Int) < (T : Int) * 64) = false := by simp; omega
  have hE2 : openE l kind = if (g4 l 12 != sumB l || tailBad l l.length) = true then 5 else if l.getD 2 0 ≠ kind then 4 else 0 := by rw [HE.out, if_neg h1, if_neg h2]
  have hmn : 16 + g4 l 8 ≤ l.length := by have := HT.out; omega
  have HE2 := Lib.hid hE2
  clear hE2 HE HT h1 h2
  obtain ⟨i0, hi0, hz0, hs0, hb0⟩ := byte_parts (P := Try.prog) (e := 5) (by kernel_rfl)
  obtain ⟨T2, hT2⟩ : ∃ T2 : Nat, T2 = 16 + g4 l 8 := ⟨_, rfl⟩
  have hcut : ∀ w, (Instr.slice 22 (.slice A l.length cap) (some (.int .i64 16)) (some (.int .i64 (16 + ((g4 l 8 : Nat) : Int)))) none).run Try.prog w = .ok (.slice (cutA A cap 16) (g4 l 8) (cap - 16)) w := fun w => by
    have := run_slice_mid (P := Try.prog) Try.underlying22 hi0 hs0 A l.length cap 16 (16 + g4 l 8) (by omega) (by omega) w
    rw [show 16 + g4 l 8 - 16 = g4 l 8 by omega, Int.natCast_add] at this
    exact this
  have hcut12 : ∀ w, (Instr.slice 22 (.slice A l.length cap) (some (.int .i64 12)) none none).run Try.prog w = .ok (.slice (cutA A cap 12) (l.length - 12) (cap - 12)) w := fun w => run_slice_from (P := Try.prog) Try.underlying22 hi0 hs0 A l.length cap 12 (by omega) w
  have hcutT : ∀ w, (Instr.slice 22 (.slice A l.length cap) (some (.int .i64 (16 + ((g4 l 8 : Nat) : Int)))) none none).run Try.prog w = .ok (.slice (cutA A cap T2) (l.length - T2) (cap - T2)) w := fun w => by
    have := run_slice_from (P := Try.prog) Try.underlying22 hi0 hs0 A l.length cap T2 (by omega) w
    rwa [show ((T2 : Nat) : Int) = 16 + ((g4 l 8 : Nat) : Int) by omega] at this
  have Cnum := Lib.hid (fun W hW => num_at A cap l hl 12 (by omega) hcap hlen (Sw.out W hW))
  have Csum := Lib.hid (fun W (hW : Below w.heap.size w W) => checksum_any A cap l hl (g4 l 8) l.length rfl (by omega) hmn hcap hlen hW (Sw.out W hW))
  have Cbl := Lib.hid (fun W hW => blank_at A cap l hl T2 (l.length - T2) (by omega) rfl hcap hlen (Sw.out W hW))
  have hdl := dataB_len hmn
  have hcA : cutA A cap 16 = none → cap - 16 = 0 := by
    unfold cutA
    by_cases hck : cap = 16
    · omega
    · rw [if_neg hck]
      intro hh
      cases A with
      | none => have := hA rfl; omega
      | some a => simp at hh
  have Ccl := Lib.hid (fun W (hW : Below w.heap.size w W) => bclone_any (cutA A cap 16) (cap - 16) (dataB l) W (B := W.heap.size) (by
    unfold dataB
    rw [← byts_take, ← byts_drop]
    exact ((Sw.out W hW).from (by rw [byts_length]; exact hcap)).to _) (Nat.le_refl _) (by rw [hdl]; omega) hcA (by rw [hdl]; omega))
  have hsb := sumB_lt l
  have hg12 := g4_lt hl 12
  have hg4 := g4_lt hl 4
  obtain ⟨β, pβ⟩ : ∃ β, (((g4 l 12 : Nat) : Int) != ((sumB l : Nat) : Int)) = β := ⟨_, rfl⟩
  have Hβ : Hid ((g4 l 12 != sumB l) = β) := Lib.hid (by rw [← pβ, Bool.eq_iff_iff, bne_iff_ne, bne_iff_ne]; omega)
  obtain ⟨γ, pγ⟩ : ∃ γ, blankB (l.drop T2) = γ := ⟨_, rfl⟩
  have hE3 : openE l kind = if (β || !γ) = true then 5 else if l.getD 2 0 ≠ kind then 4 else 0 := by rw [HE2.out, Hβ.out, tail_blank, ← hT2, pγ]
  have HE3 := Lib.hid hE3
  clear HE2 Hβ hE3
  have Hs : Hid (sum (l.take 12 ++ (l.drop 16).take (g4 l 8)) = sumB l) := Lib.hid rfl
  rw [Hs.out] at Csum
  rw [pγ] at Cbl
  rw [hdl] at Ccl
  obtain ⟨b, o, rfl, c2⟩ := sl_cell (Sw.out w (Below.refl _ _)) (k := 2) (by omega)
  have hx2 := getB_lt hl 2
  have hblt : b < w.heap.size := by
    rcases Sw.out w (Below.refl _ _) with h0 | ⟨b', o', e, hlt, _⟩
    · have := congrArg List.length h0
      rw [byts_length, List.length_nil] at this
      omega
    · have : b' = b := by injection e with e; injection e with e; exact e.symm
      omega
  have cell2 : ∀ W, Below w.heap.size w W → W.cell? ⟨b, o + 2, none⟩ = some (.int .u8 ((l.getD 2 0 : Nat) : Int)) := fun W hW => (hW.cell (p := ⟨b, o + 2, none⟩) hblt).trans c2
  have Hcell := Lib.hid cell2
  clear c2 Sw hA Hs pγ hl cell2
  have Hm := Lib.hid hm
  have hT2b : T2 ≤ 4112 := by omega
  have HT2 := Lib.hid hT2
  clear hT2
  have hwr : IntKind.i64.wrap ((16 : Int) + ((g4 l 8 : Nat) : Int)) = (16 : Int) + ((g4 l 8 : Nat) : Int) := IntWalk.i64_in _ (by omega)
  unfold OpenR
  have Hdd := Lib.hid hdl
  clear hdl
  generalize l.getD 2 0 = x2 at *
  generalize openE l kind = E at *
  generalize dataB l = D at *
  generalize sumB l = S at *
  generalize g4 l 12 = y12 at *
  generalize g4 l 4 = y4 at *
  generalize g4 l 8 = m at *
  generalize l.length = n at *
  clear hmn
  generalize cutA (some ⟨b, o, none⟩) cap 16 = A16 at *
  generalize cutA (some ⟨b, o, none⟩) cap 12 = A12 at *
  generalize cutA (some ⟨b, o, none⟩) cap T2 = AT at *
  go_enter Try.func14, Try.ntmps14
  go_wp2_with fail
  refine N'.out.mono ?_
  rintro e w1 ⟨rfl, n1, rfl⟩
  have hb1 : Below w.heap.size w (w.drewN n1) := drewN_below n1
  have HB1 := Lib.hid hb1
  clear hb1
  generalize w.drewN n1 = W1 at *
  go_wp2_with fail
  refine (RB'.out _).mono ?_
  rintro e w2 ⟨rfl, rfl⟩
  go_wp2_with fail
  refine (Cnum.out _ HB1.out).mono ?_
  rintro e w3 ⟨rfl, rfl⟩
  go_wp2_with fail
  refine (Csum.out _ HB1.out).mono ?_
  rintro e w4 ⟨rfl, hb4⟩
  have HB4 := Lib.hid hb4
  clear hb4 HB1
  cases β with
  | true =>
    have he : E = 5 := by rw [HE3.out]; rfl
    have HE4 := Lib.hid he
    clear he HE3
    go_wp2_with fail
    go_returns
    exact ⟨HB4.out, .inl ⟨fun h => absurd (HE4.out.symm.trans h) (by decide), by rw [HE4.out]; rfl⟩⟩
  | false =>
  go_wp2_with fail
  refine (Cbl.out _ HB4.out).mono ?_
  rintro e w5 ⟨rfl, rfl⟩
  cases γ with
  | false =>
    have he : E = 5 := by rw [HE3.out]; rfl
    have HE4 := Lib.hid he
    clear he HE3
    go_wp2_with fail
    go_returns
    exact ⟨HB4.out, .inl ⟨fun h => absurd (HE4.out.symm.trans h) (by decide), by rw [HE4.out]; rfl⟩⟩
  | true =>
  have cx := Hcell.out _ HB4.out
  clear Hcell
  by_cases hkk : x2 = kind
  · have p1 : ((x2 : Int) != (kind : Int)) = false := by simp; omega
    have p2 : (x2 != kind) = false := by simp; omega
    have e0 : E = 0 := by rw [HE3.out, if_neg (by decide), if_neg (by omega)]
    have HE4 := Lib.hid e0
    clear HE3 e0 hkk
    go_wp2_with fail
    refine (Ccl.out _ HB4.out).mono ?_
    rintro e w6 ⟨A6, c6, rfl, hown, hb6⟩
    rw [Hdd.out] at hown
    have Ho := Lib.hid hown
    have HB6 := Lib.hid (HB4.out.trans (hb6.mono HB4.out.size))
    clear hown hb6
    go_wp2_with fail
    go_returns
    exact ⟨HB6.out, .inr ⟨HE4.out, A6, c6, by rw [Hdd.out]; rfl, World.ownsRow_base Ho.out HB4.out.size⟩⟩
  · have p1 : ((x2 : Int) != (kind : Int)) = true := by simp; omega
    have p2 : (x2 != kind) = true := by simp; omega
    have e0 : E = 4 := by rw [HE3.out, if_neg (by decide), if_pos hkk]
    have HE4 := Lib.hid e0
    clear HE3 e0 hkk
    go_wp2_with fail
    go_returns
    exact ⟨HB4.out, .inl ⟨fun h => absurd (HE4.out.symm.trans h) (by decide), by rw [HE4.out]; rfl⟩⟩

theorem open_any (A : Option Addr) (cap : Nat) (l : List Nat) (kind : Nat) (hl : ∀ x ∈ l, x < 256) (hlen : l.length ≤ 1000000000) (hcap : l.length ≤ cap) (hA : A = none → cap = 0) {w : World} {B : Nat} (hsl : Sl w B A (byts l)) (hB : B ≤ w.heap.size) :
    Calls Try.prog 14 #[.slice A l.length cap, .int .u8 (kind : Int)] w (OpenR l kind w) := by
  by_cases h : sizeE l = 0
  · exact open_good A cap l kind hl hlen hcap hA hsl hB h
  · exact open_bad A cap l kind hl hcap hlen hsl h
theorem ropen_any (A : Option Addr) (cap : Nat) (l : List Nat) (kind : Nat) (hl : ∀ x ∈ l, x < 256) (hlen : l.length ≤ 1000000000) (hcap : l.length ≤ cap) (hA : A = none → cap = 0) {w : World} {B : Nat} (hsl : Sl w B A (byts l)) (hB : B ≤ w.heap.size) :
    Calls Try.prog 16 #[.slice A l.length cap, .int .u8 (kind : Int)] w (OpenR l kind w) := by
  by_cases h : sizeE l = 0
  · exact ropen_good A cap l kind hl hlen hcap hA hsl hB h
  · exact ropen_bad A cap l kind hl hlen hsl h
end Go.Proofs.Ytpicalkcgioimaa
