/- Slices of bytes that may be read, and what the program's and the document's functions do on them; the statements' own check that the program is awake holds. -/
import Derived.Test.YtpicalkcgioimaaLframe
import Derived.Test.YtpicalkcgioimaaLopen
import Derived.Test.YtpicalkcgioimaaStr
namespace Go.Proofs.Ytpicalkcgioimaa
open Go.RowKit Crc

/-- A slice of bytes that may be read. -/
structure By (w : World) (A : Option Addr) (c : Nat) (l : List Nat) : Prop where
  sl : Sl w w.heap.size A (byts l)
  lt : ∀ x ∈ l, x < 256
  cap : l.length ≤ c
  nil : A = none → c = 0
  len : l.length ≤ 1000000
section
variable {w w' : World} {A : Option Addr} {c : Nat} {l d : List Nat}
theorem By.below (h : By w A c l) (hb : Below w.heap.size w w') : By w' A c l := ⟨sl_keep h.sl hb, h.lt, h.cap, h.nil, h.len⟩
theorem By.of_own {base n : Nat} (h : w.ownsRow base 5 1 (.slice A n c) n (byts l)) (hl : ∀ x ∈ l, x < 256) (hlen : l.length ≤ 1000000) : By w A c l := by
  have hn : n = l.length := by have := h.1; rw [byts_length] at this; omega
  subst hn
  exact ⟨Sl.of_own h, hl, own_len h, own_none h, hlen⟩
theorem By.to (h : By w A c l) (k : Nat) : By w A c (l.take k) := ⟨by rw [← byts_take]; exact h.sl.to k, fun x hx => h.lt x (List.mem_of_mem_take hx), by have := h.cap; rw [List.length_take]; omega, h.nil, by have := h.len; rw [List.length_take]; omega⟩

/-- How Make ends where it makes a frame. -/
def MakeOk (k g : Nat) (d : List Nat) (w : World) (e : Ending) (w' : World) : Prop :=
  ∃ A c, e = .returned (.tuple #[.slice A (frameB k g d).length c, .int .i64 0]) ∧ By w' A c (frameB k g d) ∧ Below w.heap.size w w' ∧ w'.ownsRow w.heap.size 5 1 (.slice A (frameB k g d).length c) (frameB k g d).length (byts (frameB k g d))
theorem makeE_ok {g : Nat} {n : Nat} (hg : g ≤ 2147483647) (hn : n ≤ 4096) : makeE (g : Int) n = 0 := by unfold makeE; rw [if_neg (by omega), if_neg (by omega)]
theorem frame_small {k g : Nat} {d : List Nat} (hd : d.length ≤ 4096) : (frameB k g d).length ≤ 4160 := by rw [fr_len]; unfold fill; omega
theorem makeR_ok {k g : Nat} {d : List Nat} {w w' : World} {e : Ending} (hk : k < 256) (hg : g ≤ 2147483647) (hb : ∀ x ∈ d, x < 256) (hd : d.length ≤ 4096) (h : MakeR k (g : Int) d w e w') : MakeOk k g d w e w' := by
  obtain ⟨hbl, ⟨h1, _⟩ | ⟨_, A, c, he, hown⟩⟩ := h
  · exact absurd (makeE_ok hg hd) h1
  · rw [Int.toNat_natCast] at he hown
    exact ⟨A, c, he, By.of_own hown (frameB_lt hk g hb) (by have := frame_small (k := k) (g := g) hd; omega), hbl, hown⟩
theorem make_by (k : Nat) (hk : k < 256) (z : Int) (hz : z = (k : Int)) (g : Nat) (gz : Int) (hgz : gz = (g : Int)) (hg : g ≤ 2147483647) (h : By w A c d) (hd : d.length ≤ 4096) (n : Nat) (hn : n = d.length) :
    Calls Try.prog 10 #[.int .u8 z, .int .i64 gz, .slice A n c] w (MakeOk k g d w) := by
  subst hz; subst hgz; subst hn
  exact (make_any k hk g A c d h.lt w h.sl (Nat.le_refl _)).mono fun e w' h' => makeR_ok hk hg h.lt hd h'
theorem rmake_by (k : Nat) (hk : k < 256) (z : Int) (hz : z = (k : Int)) (g : Nat) (gz : Int) (hgz : gz = (g : Int)) (hg : g ≤ 2147483647) (h : By w A c d) (hd : d.length ≤ 4096) (n : Nat) (hn : n = d.length) :
    Calls Try.prog 11 #[.int .u8 z, .int .i64 gz, .slice A n c] w (MakeOk k g d w) := by
  subst hz; subst hgz; subst hn
  exact (rmake_any k hk g A c d h.lt h.cap h.nil w h.sl (Nat.le_refl _)).mono fun e w' h' => makeR_ok hk hg h.lt hd h'
/-- How Make ends where it makes none. -/
def MakeNo (E : Nat) (w : World) (e : Ending) (w' : World) : Prop := e = .returned (.tuple #[.slice none 0 0, .int .i64 (E : Int)]) ∧ Below w.heap.size w w'
theorem makeR_no {k : Nat} {g : Int} {d : List Nat} {w w' : World} {e : Ending} {E : Nat} (hE : makeE g d.length = E) (h0 : E ≠ 0) (h : MakeR k g d w e w') : MakeNo E w e w' := by
  obtain ⟨hbl, ⟨_, he⟩ | ⟨h1, _⟩⟩ := h
  · exact ⟨by rw [he, hE], hbl⟩
  · omega
theorem make_no (k : Nat) (hk : k < 256) (z : Int) (hz : z = (k : Int)) (g : Int) (h : By w A c d) (n : Nat) (hn : n = d.length) (E : Nat) (hE : makeE g d.length = E) (h0 : E ≠ 0) :
    Calls Try.prog 10 #[.int .u8 z, .int .i64 g, .slice A n c] w (MakeNo E w) := by
  subst hz; subst hn
  exact (make_any k hk g A c d h.lt w h.sl (Nat.le_refl _)).mono fun e w' h' => makeR_no hE h0 h'
theorem rmake_no (k : Nat) (hk : k < 256) (z : Int) (hz : z = (k : Int)) (g : Int) (h : By w A c d) (n : Nat) (hn : n = d.length) (E : Nat) (hE : makeE g d.length = E) (h0 : E ≠ 0) :
    Calls Try.prog 11 #[.int .u8 z, .int .i64 g, .slice A n c] w (MakeNo E w) := by
  subst hz; subst hn
  exact (rmake_any k hk g A c d h.lt h.cap h.nil w h.sl (Nat.le_refl _)).mono fun e w' h' => makeR_no hE h0 h'

/-- How Open ends where it finds a fault. -/
def OpenNo (E : Nat) (w : World) (e : Ending) (w' : World) : Prop := e = .returned (.tuple #[.int .i64 0, .slice none 0 0, .int .i64 (E : Int)]) ∧ Below w.heap.size w w'
/-- How Open ends where it finds none. -/
def OpenOk (g : Nat) (d : List Nat) (w : World) (e : Ending) (w' : World) : Prop :=
  ∃ A c, e = .returned (.tuple #[.int .i64 (g : Int), .slice A d.length c, .int .i64 0]) ∧ By w' A c d ∧ Below w.heap.size w w'
theorem openR_no {l : List Nat} {kind E : Nat} {w w' : World} {e : Ending} (hE : openE l kind = E) (h0 : E ≠ 0) (h : OpenR l kind w e w') : OpenNo E w e w' := by
  obtain ⟨hbl, ⟨_, he⟩ | ⟨h1, _⟩⟩ := h
  · exact ⟨by rw [he, hE], hbl⟩
  · omega
theorem openE_len {l : List Nat} {kind : Nat} (h : openE l kind = 0) : 16 + g4 l 8 ≤ l.length ∧ g4 l 8 ≤ 4096 := by
  unfold openE at h
  by_cases hs : sizeE l ≠ 0
  · rw [if_pos hs] at h; omega
  · rw [if_neg hs] at h
    obtain ⟨_, _, hb⟩ := (sizeE_cases l).resolve_left hs
    unfold badHead at hb
    have hm : g4 l 8 ≤ 4096 := by omega
    by_cases h1 : blk (g4 l 8) * 64 < l.length
    · rw [if_pos h1] at h; omega
    · rw [if_neg h1] at h
      by_cases h2 : l.length < blk (g4 l 8) * 64
      · rw [if_pos h2] at h; omega
      · rw [blk_nat hm] at h1 h2
        omega
theorem openR_ok {l : List Nat} {kind : Nat} {w w' : World} {e : Ending} (hl : ∀ x ∈ l, x < 256) (hE : openE l kind = 0) (h : OpenR l kind w e w') : OpenOk (g4 l 4) (dataB l) w e w' := by
  obtain ⟨h16, hm⟩ := openE_len hE
  have hdl := dataB_len h16
  obtain ⟨hbl, ⟨h1, _⟩ | ⟨_, A, c, he, hown⟩⟩ := h
  · omega
  · exact ⟨A, c, by rw [he, hdl], By.of_own hown (fun x hx => hl x (List.mem_of_mem_drop (List.mem_of_mem_take hx))) (by omega), hbl⟩
theorem open_by (h : By w A c l) (kind : Nat) (z : Int) (hz : z = (kind : Int)) (n : Nat) (hn : n = l.length) :
    Calls Try.prog 14 #[.slice A n c, .int .u8 z] w (OpenR l kind w) := by
  subst hz; subst hn
  exact open_any A c l kind h.lt (by have := h.len; omega) h.cap h.nil h.sl (Nat.le_refl _)
theorem ropen_by (h : By w A c l) (kind : Nat) (z : Int) (hz : z = (kind : Int)) (n : Nat) (hn : n = l.length) :
    Calls Try.prog 16 #[.slice A n c, .int .u8 z] w (OpenR l kind w) := by
  subst hz; subst hn
  exact ropen_any A c l kind h.lt (by have := h.len; omega) h.cap h.nil h.sl (Nat.le_refl _)
theorem open_no (h : By w A c l) (kind : Nat) (z : Int) (hz : z = (kind : Int)) (n : Nat) (hn : n = l.length) (E : Nat) (hE : openE l kind = E) (h0 : E ≠ 0) :
    Calls Try.prog 14 #[.slice A n c, .int .u8 z] w (OpenNo E w) :=
  (open_by h kind z hz n hn).mono fun _ _ h' => openR_no hE h0 h'
theorem open_frame {k g : Nat} (hg : g ≤ 2147483647) (hd : d.length ≤ 4096) (h : By w A c (frameB k g d)) (z : Int) (hz : z = (k : Int)) (n : Nat) (hn : n = (frameB k g d).length) :
    Calls Try.prog 14 #[.slice A n c, .int .u8 z] w (OpenOk g d w) := by
  have hE : openE (frameB k g d) k = 0 := by rw [fr_open hg hd]; simp
  refine (open_by h k z hz n hn).mono fun e w' h' => ?_
  have := openR_ok h.lt hE h'
  rwa [fr_g4 (by omega), fr_data (by omega)] at this
theorem size_by (h : By w A c l) (n : Nat) (hn : n = l.length) : Calls Try.prog 15 #[.slice A n c] w (SizeR l w) := by
  subst hn
  exact size_any A c l h.lt h.cap (by have := h.len; omega) h.sl
theorem rsize_by (h : By w A c l) (n : Nat) (hn : n = l.length) : Calls Try.prog 17 #[.slice A n c] w (SizeR l w) := by
  subst hn
  exact rsize_any A c l h.lt (by have := h.len; omega) h.sl
theorem blocks_lit (z : Int) (hz : IntKind.i64.wrap z = z) (m : Int) (hm : m = ((blk z : Nat) : Int)) (w : World) : Calls Try.prog 12 #[.int .i64 z] w fun e w' => e = .returned (.int .i64 m) ∧ w' = w := by
  subst hm
  exact blocks_any z hz w
end

theorem bstr_abc : bstr [97, 98, 99] = ⟨#[97, 98, 99]⟩ := by kernel_rfl
theorem len64 : (frameB 7 3 [97, 98, 99]).length = 64 := by rw [fr_len]; rfl
set_option maxRecDepth 4000 in
set_option maxHeartbeats 2000000 in
theorem awake_any (w : World) : Calls Try.prog 9 #[] w fun e w' => e = .returned (.bool true) ∧ Below w.heap.size w w' := by
  have kc := @run_const
  obtain ⟨w0, hw0⟩ : ∃ w0, w0 = w.alloc (.cells #[.int .u8 97, .int .u8 98, .int .u8 99] 5 (3, 4)) := ⟨_, rfl⟩
  have hb0 : Below w.heap.size w w0 := by rw [hw0]; exact (Below.refl _ _).alloc (Nat.le_refl _) _
  have hby : By w0 (some ⟨w.heap.size, 0, none⟩) 3 [97, 98, 99] := by
    rw [hw0]
    refine ⟨.inr ⟨w.heap.size, 0, rfl, by simp, fun i hi => ?_⟩, by decide, by decide, by simp, by decide⟩
    rw [Nat.zero_add, cell_fresh rfl]
    have : i < 3 := by simpa [byts] using hi
    have : i = 0 ∨ i = 1 ∨ i = 2 := by omega
    rcases this with rfl | rfl | rfl <;> rfl
  have N1 := Lib.hid (make_by 7 (by decide) 7 rfl 3 3 rfl (by decide) hby (by decide) 3 rfl)
  have HB0 := Lib.hid hb0
  have q1 : (64 : Nat) = (frameB 7 3 [97, 98, 99]).length := len64.symm
  clear hb0 hby
  have HW := Lib.hid hw0
  have e0 : w.alloc (.cells #[.int .u8 97, .int .u8 98, .int .u8 99] 5 (3, 4)) = w0 := hw0.symm
  clear hw0
  go_enter Try.func9, Try.ntmps9
  go_wp2_with fail
  clear kc e0 HW
  refine N1.out.mono ?_
  rintro e w1 ⟨A1, c1, rfl, by1, hb1, -⟩
  rw [len64]
  have N2 := Lib.hid (open_frame (by decide) (by decide) by1 7 rfl 64 q1)
  have HB1 := Lib.hid (HB0.out.trans (hb1.mono HB0.out.size))
  clear by1 hb1 HB0 N1 q1
  go_wp2_with fail
  refine N2.out.mono ?_
  rintro e w2 ⟨A2, c2, rfl, by2, hb2⟩
  have k1 := conv_b (cap := c2) by2.sl
  rw [show [97, 98, 99].length = 3 from rfl, bstr_abc] at k1
  have HB2 := Lib.hid (HB1.out.trans (hb2.mono HB1.out.size))
  rw [show [97, 98, 99].length = 3 from rfl]
  clear by2 hb2 HB1 N2
  go_wp2_with fail
  refine (blocks_lit 48 (by decide) 1 rfl _).mono ?_
  rintro e w3 ⟨rfl, rfl⟩
  go_wp2_with fail
  refine (blocks_lit 49 (by decide) 2 rfl _).mono ?_
  rintro e w4 ⟨rfl, rfl⟩
  go_wp2_with fail
  go_ret
  exact ⟨rfl, HB2.out⟩
end Go.Proofs.Ytpicalkcgioimaa
