/- The document's Make. -/
import Derived.Test.YtpicalkcgioimaaRsize
import Derived.Test.YtpicalkcgioimaaOwn
import Derived.Test.YtpicalkcgioimaaTal
import Derived.Test.YtpicalkcgioimaaStr
namespace Go.Proofs.Ytpicalkcgioimaa
open Go.RowKit Crc

/-- A frame's first twelve bytes. -/
def headB (k g n : Nat) : List Nat := [197, 126, k, 0] ++ le4 g ++ le4 n
/-- A frame without what fills its last block. -/
def wholeB (k g : Nat) (d : List Nat) : List Nat := headB k g d.length ++ le4 (sum (headB k g d.length ++ d)) ++ d
/-- How many bytes fill the last block. -/
def fill (n : Nat) : Nat := (64 - n % 64) % 64
/-- A frame. -/
def frameB (k g : Nat) (d : List Nat) : List Nat := wholeB k g d ++ List.replicate (fill (wholeB k g d).length) 0
theorem headB_len (k g n : Nat) : (headB k g n).length = 12 := by simp [headB, le4]
theorem wholeB_len (k g : Nat) (d : List Nat) : (wholeB k g d).length = 16 + d.length := by simp [wholeB, headB_len, le4]; omega
theorem frameB_len (k g : Nat) (d : List Nat) : (frameB k g d).length = (d.length + 79) / 64 * 64 := by
  unfold frameB
  rw [List.length_append, List.length_replicate, wholeB_len]
  unfold fill
  omega
theorem headB_lt {k : Nat} (hk : k < 256) (g n : Nat) : ∀ c ∈ headB k g n, c < 256 := by
  intro c hc
  simp only [headB, List.mem_append, List.mem_cons, List.not_mem_nil, or_false] at hc
  rcases hc with (h | h) | h
  · omega
  · exact le4_lt g c h
  · exact le4_lt n c h
theorem wholeB_lt {k : Nat} (hk : k < 256) (g : Nat) {d : List Nat} (hd : ∀ x ∈ d, x < 256) : ∀ c ∈ wholeB k g d, c < 256 := by
  intro c hc
  simp only [wholeB, List.mem_append] at hc
  rcases hc with (h | h) | h
  · exact headB_lt hk _ _ c h
  · exact le4_lt _ c h
  · exact hd c h
theorem frameB_lt {k : Nat} (hk : k < 256) (g : Nat) {d : List Nat} (hd : ∀ x ∈ d, x < 256) : ∀ c ∈ frameB k g d, c < 256 := by
  intro c hc
  unfold frameB at hc
  rcases List.mem_append.1 hc with h | h
  · exact wholeB_lt hk g hd c h
  · rw [(List.mem_replicate.1 h).2]; decide

/-- Make's error. -/
def makeE (g : Int) (n : Nat) : Nat := if g < 0 ∨ 2147483647 < g then 1 else if 4096 < n then 3 else 0
/-- How Make ends. -/
def MakeR (k : Nat) (g : Int) (d : List Nat) (w : World) (e : Ending) (w' : World) : Prop :=
  Below w.heap.size w w' ∧ ((makeE g d.length ≠ 0 ∧ e = .returned (.tuple #[.slice none 0 0, .int .i64 ((makeE g d.length : Nat) : Int)])) ∨
    (makeE g d.length = 0 ∧ ∃ A c, e = .returned (.tuple #[.slice A (frameB k g.toNat d).length c, .int .i64 0]) ∧ w'.ownsRow w.heap.size 5 1 (.slice A (frameB k g.toNat d).length c) (frameB k g.toNat d).length (byts (frameB k g.toNat d))))

set_option maxHeartbeats 4000000 in
theorem rmake_bad (k : Nat) (g : Int) (A : Option Addr) (cap : Nat) (d : List Nat) (w : World) (h : makeE g d.length ≠ 0) :
    Calls Try.prog 11 #[.int .u8 (k : Int), .int .i64 g, .slice A d.length cap] w (MakeR k g d w) := by
  have early : ∀ a b c : Bool, decide (g < 0) = a → decide (2147483647 < g) = b → decide (4096 < (d.length : Int)) = c → decide (4096 < d.length) = c → (a = true ∨ b = true ∨ c = true) → (z : Int) → z = (makeE g d.length : Nat) → (z = if (a || b) = true then 1 else 3) →
      Calls Try.prog 11 #[.int .u8 (k : Int), .int .i64 g, .slice A d.length cap] w fun e w' => w' = w ∧ e = .returned (.tuple #[.slice none 0 0, .int .i64 z]) := by
    intro a b c h1 h2 h3 h4 h z _ hz
    cases a <;> cases b <;> cases c <;> first
      | (simp at h; done)
      | (simp at hz
         subst hz
         go_enter Try.func11, Try.ntmps11
         go_wp2_with fail
         go_returns
         exact ⟨rfl, rfl⟩)
  refine (early _ _ _ rfl rfl rfl (by rw [decide_eq_decide]; omega) ?_ _ rfl ?_).mono ?_
  · unfold makeE at h
    by_cases h1 : g < 0 ∨ 2147483647 < g
    · rcases h1 with h1 | h1
      · exact .inl (by simpa using h1)
      · exact .inr (.inl (by simpa using h1))
    · rw [if_neg h1] at h
      by_cases h2 : 4096 < d.length
      · exact .inr (.inr (by simp; omega))
      · rw [if_neg h2] at h; omega
  · unfold makeE at h ⊢
    simp only [Bool.or_eq_true, decide_eq_true_eq]
    by_cases h1 : g < 0 ∨ 2147483647 < g
    · rw [if_pos h1, if_pos h1]; rfl
    · rw [if_neg h1] at h
      rw [if_neg h1, if_neg h1]
      by_cases h2 : 4096 < d.length
      · rw [if_pos h2]; rfl
      · rw [if_neg h2] at h; omega
  · rintro e w' ⟨rfl, rfl⟩
    exact ⟨Below.refl _ _, .inl ⟨h, rfl⟩⟩

/-- A row of bytes that the call itself made, in the midst of the call. -/
structure Mine (w0 w : World) (A : Option Addr) (n c : Nat) (l : List Nat) : Prop where
  own : w.ownsRow w0.heap.size 5 1 (.slice A n c) n (byts l)
  bel : Below w0.heap.size w0 w
section
variable {w0 w w' : World} {A : Option Addr} {n c : Nat} {l : List Nat}
theorem Mine.len (h : Mine w0 w A n c l) : l.length = n := by
  have := h.own.1
  rw [byts_length] at this
  omega
theorem Mine.below (h : Mine w0 w A n c l) (hb : Below w.heap.size w w') : Mine w0 w' A n c l := ⟨own_keep h.own fun b _ hlt => hb.block b hlt, h.bel.trans (hb.mono h.bel.size)⟩
theorem Mine.sl (h : Mine w0 w A n c l) : Sl w w.heap.size A (byts l) := Sl.of_own h.own
theorem Mine.app (h : Mine w0 w A n c l) {v' : Value} {m n' : Nat} {r : List Nat} (hr : r.length = m) (hn : n + m = n') (h1 : w'.ownsRow w0.heap.size 5 1 v' (n + (byts r).length) (byts l ++ byts r)) (h2 : w.grownBy w' (Value.slice A n c).ownBlock) :
    ∃ A' c', v' = .slice A' n' c' ∧ Mine w0 w' A' n' c' (l ++ r) := by
  rw [byts_length, hr, hn, byts_join] at h1
  obtain ⟨A', c', rfl⟩ := own_slice h1
  exact ⟨A', c', rfl, h1, h.bel.grown h2 h.bel.size fun g hg => (h.own.lt g hg).1⟩
end
def sliceLen : Value → Nat
  | .slice _ n _ => n
  | _ => 0
set_option maxRecDepth 4000 in
set_option maxHeartbeats 4000000 in
theorem rmake_good (k : Nat) (hk : k < 256) (g : Nat) (hg : g ≤ 2147483647) (A : Option Addr) (cap : Nat) (d : List Nat) (hd : ∀ x ∈ d, x < 256) (hlen : d.length ≤ 4096) (hcap : d.length ≤ cap) (hA : A = none → cap = 0) (w : World) {B : Nat} (hsl : Sl w B A (byts d)) (hB : B ≤ w.heap.size) :
    Calls Try.prog 11 #[.int .u8 (k : Int), .int .i64 (g : Int), .slice A d.length cap] w (MakeR k g d w) := by
  obtain ⟨i0, hi0, hz0, hs0, hb0⟩ := byte_parts (P := Try.prog) (e := 5) (by kernel_rfl)
  have q1 : decide ((g : Int) < 0) = false := by simp
  have q2 : decide (2147483647 < (g : Int)) = false := by simp; omega
  have q3 : decide (4096 < (d.length : Int)) = false := by simp; omega
  have q3' : decide (4096 < d.length) = false := by simp; omega
  have hown0 := World.ownsRow_lit (base := w.heap.size) (e := 5) (size := 1) w #[.int .u8 197, .int .u8 126, .int .u8 (k : Int), .int .u8 0] 4 (Nat.le_refl _) (by decide) rfl
  have hb0' : Below w.heap.size w (w.alloc (.cells #[.int .u8 197, .int .u8 126, .int .u8 (k : Int), .int .u8 0] 5)) := (Below.refl _ _).alloc (Nat.le_refl _) _
  have hx0 : (#[.int .u8 197, .int .u8 126, .int .u8 (k : Int), .int .u8 0] : Array Value).toList = byts [197, 126, k, 0] := rfl
  rw [hx0] at hown0
  have M0 := Lib.hid (show Mine w _ _ 4 4 [197, 126, k, 0] from ⟨hown0, hb0'⟩)
  have Sd := Lib.hid hsl
  have hsb : ∀ w', Below w.heap.size w w' → Sl w' w'.heap.size A (byts d) := fun w' hb => (hsl.below (hb.mono hB)).more (by have := hb.size; omega)
  have Sb := Lib.hid hsb
  clear hown0 hb0' hx0 hsl hsb
  go_enter Try.func11, Try.ntmps11
  go_wp2_with fail
  refine (le_any g (by omega) _).mono ?_
  rintro e w1 ⟨A1, c1, rfl, hown1, b1⟩
  have hc1 := own_len hown1
  have hA1 := own_none hown1
  have M1 := Lib.hid (M0.out.below b1)
  have S1 := Lib.hid (Sl.of_own hown1)
  clear M0 b1 hown1
  go_wp2_with (at_builtin; refine wpList_append_sl (base := w.heap.size) _ rfl (.tmp 20) (.tmp 22) _ rfl Try.underlying22 hi0 hz0 hs0 hb0 rfl rfl M1.out.own rfl (byts_length (le4 g)).symm hA1 S1.out (byts_one _) (by rw [byts_length]; exact hc1) (by rw [byts_length, le4_len]; unfold maxLen; omega) (by rw [byts_length, le4_len]; omega) M1.out.bel.size ?_; intro v2 w2 h1 h2 _; obtain ⟨A2, c2, rfl, m2⟩ := M1.out.app (le4_len g) (show 4 + 4 = 8 from rfl) h1 h2; have M2 := Lib.hid m2; clear h1 h2 m2 M1 S1)
  refine (le_any d.length (by omega) _).mono ?_
  rintro e w3 ⟨A3, c3, rfl, hown3, b3⟩
  have hc3 := own_len hown3
  have hA3 := own_none hown3
  have M3 := Lib.hid (M2.out.below b3)
  have S3 := Lib.hid (Sl.of_own hown3)
  clear M2 b3 hown3
  go_wp2_with (at_builtin; refine wpList_append_sl (base := w.heap.size) _ rfl (.tmp 23) (.tmp 26) _ rfl Try.underlying22 hi0 hz0 hs0 hb0 rfl rfl M3.out.own rfl (byts_length (le4 d.length)).symm hA3 S3.out (byts_one _) (by rw [byts_length]; exact hc3) (by rw [byts_length, le4_len]; unfold maxLen; omega) (by rw [byts_length, le4_len]; omega) M3.out.bel.size ?_; intro v4 w4 h1 h2 _; obtain ⟨A4, c4, rfl, m4⟩ := M3.out.app (le4_len d.length) (show 8 + 4 = 12 from rfl) h1 h2; have M4 := Lib.hid m4; clear h1 h2 m4 M3 S3)
  have n5 := rsum_any A4 c4 (headB k g d.length) (headB_lt hk _ _) (by rw [headB_len]; omega) w4 M4.out.sl
  rw [headB_len] at n5
  refine n5.mono ?_
  rintro e w5 ⟨rfl, rfl⟩
  have n6 := rmore_any (sum (headB k g d.length)) (more_lt (by decide) _) A cap d hd (by omega) w4 (Sb.out w4 M4.out.bel)
  rw [← sum_append] at n6
  have hS : sum (headB k g d.length ++ d) < 4294967296 := more_lt (by decide) _
  have N6 := Lib.hid n6
  have hwh : Hid (wholeB k g d = headB k g d.length ++ le4 (sum (headB k g d.length ++ d)) ++ d) := Lib.hid rfl
  clear n5 n6
  generalize sum (headB k g d.length ++ d) = S at *
  generalize sum (headB k g d.length) = S0 at *
  go_wp2_with fail
  refine N6.out.mono ?_
  rintro e w6 ⟨rfl, rfl⟩
  clear N6
  go_wp2_with fail
  refine (le_any S hS _).mono ?_
  rintro e w7 ⟨A7, c7, rfl, hown7, b7⟩
  have hc7 := own_len hown7
  have hA7 := own_none hown7
  have M7 := Lib.hid (M4.out.below b7)
  have S7 := Lib.hid (Sl.of_own hown7)
  clear M4 b7 hown7
  go_wp2_with (at_builtin; first
    | (refine wpList_append_sl (base := w.heap.size) _ rfl (.tmp 32) (.tmp 35) _ rfl Try.underlying22 hi0 hz0 hs0 hb0 rfl rfl M7.out.own rfl (byts_length (le4 S)).symm hA7 S7.out (byts_one _) (by rw [byts_length]; exact hc7) (by rw [byts_length, le4_len]; unfold maxLen; omega) (by rw [byts_length, le4_len]; omega) M7.out.bel.size ?_; intro v8 w8 h1 h2 _; obtain ⟨A8, c8, rfl, m8⟩ := M7.out.app (le4_len S) (show 12 + 4 = 16 from rfl) h1 h2; have M8 := Lib.hid m8; have S8 := Lib.hid (Sb.out w8 m8.bel); clear h1 h2 m8 M7 S7)
    | (refine wpList_append_sl (base := w.heap.size) _ rfl (.tmp 36) (.tmp 37) _ rfl Try.underlying22 hi0 hz0 hs0 hb0 rfl (v := .slice A8 16 c8) rfl M8.out.own rfl (byts_length d).symm hA S8.out (byts_one _) (by rw [byts_length]; exact hcap) (by rw [byts_length]; unfold maxLen; omega) (by rw [byts_length]; omega) M8.out.bel.size ?_; intro v9 w9 h1 h2 _; obtain ⟨A9, c9, rfl, m9⟩ := M8.out.app (r := d) rfl (show 16 + d.length = 16 + d.length from rfl) h1 h2; have M9 := Lib.hid m9; clear h1 h2 m9 M8 S8))
  have hm9 : Mine w w9 A9 (16 + d.length) c9 (wholeB k g d) := by rw [hwh.out]; exact M9.out
  have hwl := wholeB_len k g d
  have hfr : frameB k g d = wholeB k g d ++ List.replicate (fill (16 + d.length)) 0 := by unfold frameB; rw [hwl]
  have hE : makeE (g : Int) d.length = 0 := by unfold makeE; rw [if_neg (by omega), if_neg (by omega)]
  have hgt : (g : Int).toNat = g := Int.toNat_natCast g
  have HE := Lib.hid hE
  have Hgt := Lib.hid hgt
  have Hfr := Lib.hid hfr
  have Hm9 := Lib.hid hm9
  clear hm9 M9 hwh hfr hE hgt Sd Sb hd hA hcap q1 q2 q3 q3' hc1 hA1 hc3 hA3 hc7 hA7
  generalize wholeB k g d = X at *
  obtain ⟨L, hL⟩ : ∃ L, L = 16 + d.length := ⟨_, rfl⟩
  rw [← hL] at hwl Hm9 Hfr ⊢
  have hLb : L ≤ 4112 := by omega
  have hfb : fill L ≤ 63 := by unfold fill; omega
  have hfz : ∀ j, j ≤ fill L → ((L + j) % 64 = 0 ↔ j = fill L) := by unfold fill; omega
  go_loopw [8] (fun v wr => ∃ (j n : Nat) (A : Option Addr) (c : Nat), j ≤ fill L ∧ n = L + j ∧ v = .slice A n c ∧ Mine w wr A n c (X ++ List.replicate j 0)) (fun v _ => 8000 - sliceLen v)
  case atStart => exact ⟨0, L, A9, c9, Nat.zero_le _, rfl, rfl, by rw [List.replicate_zero, List.append_nil]; exact Hm9.out⟩
  case round =>
    obtain ⟨j, n, A0, c0, hj, hn, rfl, hm⟩ := hrel
    have hz := hfz j hj
    rw [← hn] at hz
    have Hm := Lib.hid hm
    have hnb : n ≤ 4175 := by omega
    have Hn := Lib.hid hn
    have Hwl := Lib.hid hwl
    clear hm hfz Hm9 hn hL hwl
    by_cases h0 : n % 64 = 0
    · have q1 : (n % 64 != 0) = false := by simpa using h0
      have q2 : (((n % 64 : Nat) : Int) != 0) = false := by simp; omega
      have q3 : ((n : Int) % 64 != 0) = false := by simp; omega
      have hjf := Lib.hid (hz.1 h0)
      clear h0 hz
      go_wp2_with fail
      go_returns
      refine ⟨Hm.out.bel, .inr ⟨HE.out, A0, c0, ?_, ?_⟩⟩
      all_goals rw [Hgt.out, Hfr.out]
      · have e : (X ++ List.replicate (fill L) 0).length = n := by rw [← hjf.out]; exact Hm.out.len
        rw [e]; rfl
      · have e : (X ++ List.replicate (fill L) 0).length = n := by rw [← hjf.out]; exact Hm.out.len
        rw [e, ← hjf.out]
        exact Hm.out.own
    · have q1 : (n % 64 != 0) = true := by simpa using h0
      have q2 : (((n % 64 : Nat) : Int) != 0) = true := by simp; omega
      have q3 : ((n : Int) % 64 != 0) = true := by simp; omega
      have hjf : j ≠ fill L := fun h => h0 (hz.2 h)
      have Mz := Lib.hid (Hm.out.below (w' := wr.alloc (.cells #[.int .u8 0] 5)) ((Below.refl _ _).alloc (Nat.le_refl _) _))
      have Sz := Lib.hid (sl_cells (w := wr) (cs := #[.int .u8 0]) (l := [0]) rfl)
      have Hjf := Lib.hid hjf
      clear h0 hz hjf
      go_wp2_with (at_builtin; refine wpList_append_sl (base := w.heap.size) _ rfl (.tmp 43) (.tmp 44) _ rfl Try.underlying22 hi0 hz0 hs0 hb0 rfl rfl Mz.out.own rfl (byts_length [0]).symm (by simp) Sz.out (byts_one _) (by rw [byts_length]; exact Nat.le_refl _) (by rw [byts_length]; unfold maxLen; simp; omega) (by rw [byts_length]; simp; omega) Mz.out.bel.size ?_; intro v2 w2 h1 h2 _; obtain ⟨A2, c2, rfl, m2⟩ := Mz.out.app (r := [0]) rfl (show n + 1 = n + 1 from rfl) h1 h2; have M2 := Lib.hid m2; clear h1 h2 m2 Mz Sz)
      go_roundw
      case rel => exact ⟨j + 1, n + 1, A2, c2, by have := Hjf.out; omega, by have := Hn.out; omega, rfl, by rw [List.replicate_succ', ← List.append_assoc]; exact M2.out⟩
      case measure => simp [sliceLen]; omega
end Go.Proofs.Ytpicalkcgioimaa
