/- The program's Blocks, number and blank. The document's Make. The document's Open. The program's header, checksum and Size. The program's putNumber: four bytes in a block of bytes. -/
import Derived.Test.YtaainefdjbmekaaSba
import Derived.Test.YtaainefdjbmekaaSbba
import Derived.Test.YtaainefdjbmekaaSbeb
import Derived.Deep.RegionHeldLaw
import Derived.Deep.RegionWith
import Derived.Laws.CopyOwn
namespace Go.Proofs.Ytaainefdjbmekaa
open Go.RowKit
set_option maxHeartbeats 1000000 in
theorem blocks_any (n : Int) (hn : IntKind.i64.wrap n = n) (w : World) : Calls Try.prog 64 #[.int .i64 n] w fun e w' => e = .returned (.int .i64 ((blk n : Nat) : Int)) ∧ w' = w := by
  by_cases h0 : n < 0
  · have q0 : decide (n < 0) = true := by simpa using h0
    have e : blk n = 0 := by unfold blk; rw [if_pos (.inl h0)]
    rw [e]
    clear e h0
    go_enter Try.func64, Try.ntmps64
    go_wp2_with fail
    go_ret
    exact ⟨rfl, rfl⟩
  · have q0 : decide (n < 0) = false := by simpa using h0
    by_cases h1 : 4096 < n
    · have q1 : decide (4096 < n) = true := by simpa using h1
      have e : blk n = 0 := by unfold blk; rw [if_pos (.inr h1)]
      rw [e]
      clear e h0 h1
      go_enter Try.func64, Try.ntmps64
      go_wp2_with fail
      go_ret
      exact ⟨rfl, rfl⟩
    · have q1 : decide (4096 < n) = false := by simpa using h1
      obtain ⟨m, rfl⟩ : ∃ m : Nat, n = m := ⟨n.toNat, by omega⟩
      have hm : m ≤ 4096 := by omega
      rw [blk_nat hm]
      clear h0 h1
      go_enter Try.func64, Try.ntmps64
      go_wp2_with fail
      go_ret
      exact ⟨by simp; omega, rfl⟩
theorem or_byte32 (k a b : Nat) (hk : k ≤ 24) (ha : a < 2 ^ k) (hb : b < 256) : bits BinOp.or IntKind.u32 (a : Int) ((b : Int) * ((2 ^ k : Nat) : Int)) = ((a + b * 2 ^ k : Nat) : Int) := by
  have hp : 2 ^ k ≤ 2 ^ 24 := Nat.pow_le_pow_right (by decide) hk
  have h1 : b * 2 ^ k ≤ 255 * 2 ^ 24 := Nat.mul_le_mul (by omega) hp
  rw [← Int.natCast_mul, u32_or_nat _ _ (by omega) (by omega), Nat.mul_comm b, Nat.or_comm, ← Nat.two_pow_add_eq_or_of_lt ha, Nat.add_comm]
theorem u8or {a b : Nat} (ha : a < 256) (hb : b < 256) : bits BinOp.or IntKind.u32 (a : Int) ((b : Int) * 256) = (a : Int) + (b : Int) * 256 := or_byte32 8 a b (by decide) ha hb
theorem u16or {a b c : Nat} (ha : a < 256) (hb : b < 256) (hc : c < 256) : bits BinOp.or IntKind.u32 ((a : Int) + (b : Int) * 256) ((c : Int) * 65536) = (a : Int) + (b : Int) * 256 + (c : Int) * 65536 := or_byte32 16 (a + b * 256) c (by decide) (by omega) hc
theorem u24or {a b c d : Nat} (ha : a < 256) (hb : b < 256) (hc : c < 256) (hd : d < 256) : bits BinOp.or IntKind.u32 ((a : Int) + (b : Int) * 256 + (c : Int) * 65536) ((d : Int) * 16777216) = (a : Int) + (b : Int) * 256 + (c : Int) * 65536 + (d : Int) * 16777216 := or_byte32 24 (a + b * 256 + c * 65536) d (by decide) (by omega) hd
theorem u0or {a : Nat} (ha : a < 256) : bits BinOp.or IntKind.u32 0 (a : Int) = (a : Int) := by
  have := u32_or_nat 0 a (by decide) (by omega)
  simpa using this
set_option maxHeartbeats 2000000 in
theorem lnumber_any (A : Option Addr) (cap : Nat) (l : List Nat) (hl : ∀ x ∈ l, x < 256) (n : Nat) (hn : n = l.length) (h4 : 4 ≤ n) (hlen : n ≤ 1000000000) {w : World} {B : Nat} (hsl : Sl w B A (byts l)) :
    Calls Try.prog 68 #[.slice A n cap] w fun e w' => e = .returned (.int .u32 ((g4 l 0 : Nat) : Int)) ∧ w' = w := by
  obtain ⟨b, o, rfl, c0⟩ := sl_cell hsl (k := 0) (by omega)
  obtain ⟨b', o', e, c1⟩ := sl_cell hsl (k := 1) (by omega)
  obtain ⟨rfl, rfl⟩ : b' = b ∧ o' = o := by simpa using e.symm
  obtain ⟨b'', o'', e, c2⟩ := sl_cell hsl (k := 2) (by omega)
  obtain ⟨rfl, rfl⟩ : b'' = b' ∧ o'' = o' := by simpa using e.symm
  obtain ⟨b3, o3, e, c3⟩ := sl_cell hsl (k := 3) (by omega)
  obtain ⟨rfl, rfl⟩ : b3 = b'' ∧ o3 = o'' := by simpa using e.symm
  have h0 := getB_lt hl 0
  have h1 := getB_lt hl 1
  have h2 := getB_lt hl 2
  have h3 := getB_lt hl 3
  unfold g4
  simp only [Nat.zero_add, Nat.add_zero] at *
  generalize l.getD 0 0 = x0 at *
  generalize l.getD 1 0 = x1 at *
  generalize l.getD 2 0 = x2 at *
  generalize l.getD 3 0 = x3 at *
  clear hsl hl hn
  have o00 := u0or h0
  have o0 := u8or h0 h1
  have oo1 := u16or h0 h1 h2
  have oo2 := u24or h0 h1 h2 h3
  go_enter Try.func68, Try.ntmps68
  go_wp2_with fail
  refine wp_loop_rounds 5 ?_
  rw [rounds_succ]
  go_wp2_with fail
  rw [rounds_succ]
  go_wp2_with fail
  rw [rounds_succ]
  go_wp2_with fail
  rw [rounds_succ]
  go_wp2_with fail
  rw [rounds_succ]
  go_wp2_with fail
  go_ret
  exact ⟨by simp, rfl⟩
set_option maxHeartbeats 2000000 in
theorem blank_any (A : Option Addr) (cap : Nat) (l : List Nat) (hl : ∀ x ∈ l, x < 256) (n : Nat) (hn : n = l.length) (hlen : n ≤ 1000000000) {w : World} {B : Nat} (hsl : Sl w B A (byts l)) :
    Calls Try.prog 69 #[.slice A n cap] w fun e w' => e = .returned (.bool (blankB l)) ∧ w' = w := by
  have HN := Lib.hid hn
  have Hc := Lib.hid (fun k (hk : k < l.length) => sl_cell hsl hk)
  have Hno := Lib.hid (fun k (hk : k < l.length) h => blank_no (l := l) hk h)
  have Hne := Lib.hid (fun k (hk : k < l.length) => blank_take (l := l) hk)
  have Hall := Lib.hid (List.take_length (l := l))
  clear hsl hn
  go_enter Try.func69, Try.ntmps69
  go_wp2_with fail
  go_loop [7] (fun i => ∃ k : Nat, k ≤ n ∧ i = .int .i64 k ∧ blankB (l.take k) = true) (fun i => n - (intOf i).toNat)
  case atStart => exact ⟨0, Nat.zero_le _, rfl, rfl⟩
  case round =>
    obtain ⟨k, hk, rfl, hb⟩ := hrel
    have Hb := Lib.hid hb
    clear hb
    by_cases hlt : k < n
    · have q3 : decide (k < n) = true := by simpa using hlt
      have hkl : k < l.length := by rw [← HN.out]; exact hlt
      obtain ⟨b, o, rfl, cx⟩ := Hc.out k hkl
      have hx := getB_lt hl k
      have hne := Lib.hid (Hne.out k hkl)
      have hno := Lib.hid (Hno.out k hkl)
      clear Hc Hno Hne hkl Hall hl
      generalize l.getD k 0 = x at *
      by_cases h0 : x = 0
      · subst h0
        go_wp2_with fail
        go_round
        case rel => exact ⟨k + 1, by omega, by go_num, by rw [hne.out, Hb.out]; rfl⟩
        case measure => simp [intOf]; omega
      · have p1 : ((x : Int) != 0) = true := by simp; omega
        have p2 : (x != 0) = true := by simp; omega
        go_wp2_with fail
        go_ret
        exact ⟨by rw [hno.out h0]; rfl, rfl⟩
    · have hkn : k = n := by omega
      subst hkn
      have q3 : decide (k < k) = false := by simp
      go_wp2_with fail
      go_ret
      refine ⟨?_, rfl⟩
      have := Hb.out
      rw [HN.out, Hall.out] at this
      rw [this]; rfl
end Go.Proofs.Ytaainefdjbmekaa
namespace Go.Proofs.Ytaainefdjbmekaa
open Go.RowKit Crc
/-- A frame's first twelve bytes. -/
def headB (k g n : Nat) : List Nat := [197, 126, k, 0] ++ le4 g ++ le4 n
/-- A frame without what fills its last block. -/
def wholeB (k g : Nat) (d : List Nat) : List Nat := headB k g d.length ++ le4 (sum (headB k g d.length ++ d)) ++ d
/-- How many bytes fill the last block. -/
def fill (n : Nat) : Nat := (64 - n % 64) % 64
/-- A frame. -/
def frameB (k g : Nat) (d : List Nat) : List Nat := wholeB k g d ++ List.replicate (fill (wholeB k g d).length) 0
theorem headB_len (k g n : Nat) : (headB k g n).length = 12 := by simp [headB, le4]
theorem wholeB_len (k g : Nat) (d : List Nat) : (wholeB k g d).length = 16 + d.length := by simp [wholeB, headB_len, le4]; omega
theorem headB_lt {k : Nat} (hk : k < 256) (g n : Nat) : ∀ c ∈ headB k g n, c < 256 := by
  intro c hc
  simp only [headB, List.mem_append, List.mem_cons, List.not_mem_nil, or_false] at hc
  rcases hc with (h | h) | h
  · omega
  · exact le4_lt g c h
  · exact le4_lt n c h
theorem wholeB_lt {k : Nat} (hk : k < 256) (g : Nat) {d : List Nat} (hd : ∀ x ∈ d, x < 256) : ∀ c ∈ wholeB k g d, c < 256 := by
  intro c hc
  simp only [wholeB, List.mem_append] at hc
  rcases hc with (h | h) | h
  · exact headB_lt hk _ _ c h
  · exact le4_lt _ c h
  · exact hd c h
theorem frameB_lt {k : Nat} (hk : k < 256) (g : Nat) {d : List Nat} (hd : ∀ x ∈ d, x < 256) : ∀ c ∈ frameB k g d, c < 256 := by
  intro c hc
  unfold frameB at hc
  rcases List.mem_append.1 hc with h | h
  · exact wholeB_lt hk g hd c h
  · rw [(List.mem_replicate.1 h).2]; decide
/-- Make's error. -/
def makeE (g : Int) (n : Nat) : Nat := if g < 0 ∨ 2147483647 < g then 1 else if 4096 < n then 3 else 0
/-- How Make ends. -/
def MakeR (k : Nat) (g : Int) (d : List Nat) (w : World) (e : Ending) (w' : World) : Prop :=
  Below w.heap.size w w' ∧ ((makeE g d.length ≠ 0 ∧ e = .returned (.tuple #[.slice none 0 0, .int .i64 ((makeE g d.length : Nat) : Int)])) ∨
    (makeE g d.length = 0 ∧ ∃ A c, e = .returned (.tuple #[.slice A (frameB k g.toNat d).length c, .int .i64 0]) ∧ w'.ownsRow w.heap.size 5 1 (.slice A (frameB k g.toNat d).length c) (frameB k g.toNat d).length (byts (frameB k g.toNat d))))
end Go.Proofs.Ytaainefdjbmekaa
namespace Go.Proofs.Ytaainefdjbmekaa
open Go.RowKit Crc
/-- The data of a frame. -/
def dataB (l : List Nat) : List Nat := (l.drop 16).take (g4 l 8)
/-- The sum that the head and the data have. -/
def sumB (l : List Nat) : Nat := sum (l.take 12 ++ dataB l)
/-- A byte behind the data that is not 0, before place i. -/
def tailBad (l : List Nat) (i : Nat) : Bool := ((l.take i).drop (16 + g4 l 8)).any (· != 0)
/-- Open's error. -/
def openE (l : List Nat) (kind : Nat) : Nat :=
  if sizeE l ≠ 0 then sizeE l else if blk (g4 l 8) * 64 < l.length then 3 else if l.length < blk (g4 l 8) * 64 then 2
  else if (g4 l 12 != sumB l || tailBad l l.length) = true then 5 else if l.getD 2 0 ≠ kind then 4 else 0
/-- How Open ends. -/
def OpenR (l : List Nat) (kind : Nat) (w : World) (e : Ending) (w' : World) : Prop :=
  Below w.heap.size w w' ∧ ((openE l kind ≠ 0 ∧ e = .returned (.tuple #[.int .i64 0, .slice none 0 0, .int .i64 ((openE l kind : Nat) : Int)])) ∨
    (openE l kind = 0 ∧ ∃ A c, e = .returned (.tuple #[.int .i64 ((g4 l 4 : Nat) : Int), .slice A (g4 l 8) c, .int .i64 0]) ∧ w'.ownsRow w.heap.size 5 1 (.slice A (g4 l 8) c) (g4 l 8) (byts (dataB l))))
theorem sizeE_cases (l : List Nat) : sizeE l ≠ 0 ∨ (sizeE l = 0 ∧ 16 ≤ l.length ∧ ¬ badHead l) := by
  unfold sizeE
  by_cases h : l.length < 16
  · rw [if_pos h]; exact .inl (by decide)
  · rw [if_neg h]
    by_cases hb : badHead l
    · rw [if_pos hb]; exact .inl (by decide)
    · rw [if_neg hb]; exact .inr ⟨rfl, by omega, hb⟩
theorem dataB_len {l : List Nat} (h : 16 + g4 l 8 ≤ l.length) : (dataB l).length = g4 l 8 := by
  unfold dataB
  rw [List.length_take, List.length_drop]
  omega
theorem sumB_lt (l : List Nat) : sumB l < 4294967296 := more_lt (by decide) _
end Go.Proofs.Ytaainefdjbmekaa
namespace Go.Proofs.Ytaainefdjbmekaa
open Go.RowKit Crc
theorem g4_drop (l : List Nat) (k : Nat) : g4 (l.drop k) 0 = g4 l k := by
  have e : ∀ i, (l.drop k).getD i 0 = l.getD (k + i) 0 := fun i => by
    rw [List.getD_eq_getElem?_getD, List.getD_eq_getElem?_getD, List.getElem?_drop]
  unfold g4
  rw [e, e, e, e]
  rfl
/-- number behind a cut. -/
theorem num_at (A : Option Addr) (cap : Nat) (l : List Nat) (hl : ∀ x ∈ l, x < 256) (k : Nat) (hk : k + 4 ≤ l.length) (hcap : l.length ≤ cap) (hlen : l.length ≤ 1000000000) {w : World} {B : Nat} (hsl : Sl w B A (byts l)) :
    Calls Try.prog 68 #[.slice (cutA A cap k) (l.length - k) (cap - k)] w fun e w' => e = .returned (.int .u32 ((g4 l k : Nat) : Int)) ∧ w' = w := by
  rw [← g4_drop]
  exact lnumber_any (cutA A cap k) (cap - k) (l.drop k) (fun x hx => hl x (List.mem_of_mem_drop hx)) (l.length - k) (by rw [List.length_drop]) (by omega) (by omega) (by rw [← byts_drop]; exact hsl.from (by rw [byts_length]; exact hcap))
/-- What header returns. -/
def headV (l : List Nat) : Value := .tuple #[.int .i64 ((if sizeE l = 0 then g4 l 4 else 0 : Nat) : Int), .int .i64 ((if sizeE l = 0 then g4 l 8 else 0 : Nat) : Int), .int .i64 ((sizeE l : Nat) : Int)]
def HeadR (l : List Nat) (w : World) (e : Ending) (w' : World) : Prop := e = .returned (headV l) ∧ ∃ n, w' = w.drewN n
theorem headV_bad {l : List Nat} (h : sizeE l ≠ 0) : headV l = .tuple #[.int .i64 0, .int .i64 0, .int .i64 ((sizeE l : Nat) : Int)] := by simp [headV, h]
theorem headV_good {l : List Nat} (h : sizeE l = 0) : headV l = .tuple #[.int .i64 ((g4 l 4 : Nat) : Int), .int .i64 ((g4 l 8 : Nat) : Int), .int .i64 0] := by simp [headV, h]
theorem q_num (A : Option Addr) (cap : Nat) (l : List Nat) (hl : ∀ x ∈ l, x < 256) (k : Nat) (hk : k + 4 ≤ l.length) (hcap : l.length ≤ cap) (hlen : l.length ≤ 1000000000) {w : World} {B : Nat} (hsl : Sl w B A (byts l)) (n : Nat) :
    Calls Try.prog 68 #[.slice (cutA A cap k) (l.length - k) (cap - k)] (w.drewN n) fun e w' => e = .returned (.int .u32 ((g4 l k : Nat) : Int)) ∧ ∃ n', w' = w.drewN n' := by
  refine (num_at A cap l hl k hk hcap hlen (w := w.drewN n) hsl).mono ?_
  rintro e w' ⟨rfl, rfl⟩
  exact ⟨rfl, n, rfl⟩
set_option maxHeartbeats 4000000 in
theorem header_any (A : Option Addr) (cap : Nat) (l : List Nat) (hl : ∀ x ∈ l, x < 256) (hcap : l.length ≤ cap) (hlen : l.length ≤ 1000000000) {w : World} {B : Nat} (hsl : Sl w B A (byts l)) :
    Calls Try.prog 67 #[.slice A l.length cap] w (HeadR l w) := by
  by_cases hs : l.length < 16
  · have q0 : decide (l.length < 16) = true := by simpa using hs
    have q0' : decide ((l.length : Int) < 16) = true := by simp; omega
    have e : headV l = .tuple #[.int .i64 0, .int .i64 0, .int .i64 2] := by
      have : sizeE l = 2 := by unfold sizeE; rw [if_pos hs]
      rw [headV_bad (by omega), this]; rfl
    unfold HeadR
    rw [e]
    clear e hs hl hsl
    go_enter Try.func67, Try.ntmps67
    go_wp2_with fail
    go_returns
    exact ⟨rfl, 0, rfl⟩
  have q0 : decide (l.length < 16) = false := by simpa using hs
  have q0' : decide ((l.length : Int) < 16) = false := by simp; omega
  obtain ⟨i0, hi0, hz0, hs0, hb0⟩ := byte_parts (P := Try.prog) (e := 5) (by kernel_rfl)
  have cut4 : ∀ w, (Instr.slice 22 (.slice A l.length cap) (some (.int .i64 4)) none none).run Try.prog w = .ok (.slice (cutA A cap 4) (l.length - 4) (cap - 4)) w := fun w => run_slice_from (P := Try.prog) Try.underlying22 hi0 hs0 A l.length cap 4 (by omega) w
  have cut8 : ∀ w, (Instr.slice 22 (.slice A l.length cap) (some (.int .i64 8)) none none).run Try.prog w = .ok (.slice (cutA A cap 8) (l.length - 8) (cap - 8)) w := fun w => run_slice_from (P := Try.prog) Try.underlying22 hi0 hs0 A l.length cap 8 (by omega) w
  have N4 := Lib.hid (q_num A cap l hl 4 (by omega) hcap hlen hsl)
  have N8 := Lib.hid (q_num A cap l hl 8 (by omega) hcap hlen hsl)
  have hx0 := getB_lt hl 0
  have hx1 := getB_lt hl 1
  have hx3 := getB_lt hl 3
  have hg8 := g4_lt hl 8
  have hg4 := g4_lt hl 4
  obtain ⟨b, o, rfl, c0⟩ := sl_cell hsl (k := 0) (by omega)
  obtain ⟨b', o', e, c1⟩ := sl_cell hsl (k := 1) (by omega)
  obtain ⟨rfl, rfl⟩ : b' = b ∧ o' = o := by simpa using e.symm
  obtain ⟨b2, o2, e, c3⟩ := sl_cell hsl (k := 3) (by omega)
  obtain ⟨rfl, rfl⟩ : b2 = b' ∧ o2 = o' := by simpa using e.symm
  have hv1 : badHead l → headV l = .tuple #[.int .i64 0, .int .i64 0, .int .i64 4] := fun hb => by
    have : sizeE l = 4 := by unfold sizeE; rw [if_neg hs, if_pos hb]
    rw [headV_bad (by omega), this]; rfl
  have hv0 : ¬ badHead l → headV l = .tuple #[.int .i64 ((g4 l 4 : Nat) : Int), .int .i64 ((g4 l 8 : Nat) : Int), .int .i64 0] := fun hb => by
    have : sizeE l = 0 := by unfold sizeE; rw [if_neg hs, if_neg hb]
    exact headV_good this
  unfold badHead at hv1 hv0
  have Hv1 := Lib.hid hv1
  have Hv0 := Lib.hid hv0
  unfold HeadR
  have hn16 : 16 ≤ l.length := by omega
  clear hv1 hv0 hl hsl hs e
  generalize l.getD 0 0 = x0 at *
  generalize l.getD 1 0 = x1 at *
  generalize l.getD 3 0 = x3 at *
  generalize g4 l 8 = y8 at *
  generalize g4 l 4 = y4 at *
  generalize headV l = V at *
  generalize l.length = n at *
  generalize cutA (some ⟨b2, o2, none⟩) cap 4 = A4 at *
  generalize cutA (some ⟨b2, o2, none⟩) cap 8 = A8 at *
  obtain ⟨b0, p0⟩ : ∃ b, ((x0 : Int) != 197) = b := ⟨_, rfl⟩
  obtain ⟨b1, p1⟩ : ∃ b, ((x1 : Int) != 126) = b := ⟨_, rfl⟩
  obtain ⟨b3, p3⟩ : ∃ b, ((x3 : Int) != 0) = b := ⟨_, rfl⟩
  obtain ⟨b8, p8⟩ : ∃ b, decide (4096 < (y8 : Int)) = b := ⟨_, rfl⟩
  obtain ⟨b4, p4⟩ : ∃ b, decide (2147483647 < (y4 : Int)) = b := ⟨_, rfl⟩
  go_enter Try.func67, Try.ntmps67
  go_wp2_with fail
  go_quiet ((first
    | (go_at_call 68; with_reducible exact N4.out _)
    | (go_at_call 68; with_reducible exact N8.out _)))
  have d0 : (w.drewN nq).cell? ⟨b2, o2, none⟩ = some (.int .u8 (x0 : Int)) := c0
  have d1 : (w.drewN nq).cell? ⟨b2, o2 + 1, none⟩ = some (.int .u8 (x1 : Int)) := c1
  have d3 : (w.drewN nq).cell? ⟨b2, o2 + 3, none⟩ = some (.int .u8 (x3 : Int)) := c3
  have HW : Hid (∃ n, w.drewN nq = w.drewN n) := Lib.hid ⟨nq, rfl⟩
  clear c0 c1 c3 N4 N8 cut4 cut8
  generalize w.drewN nq = W1 at *
  have bad : (x0 ≠ 197 ∨ x1 ≠ 126 ∨ x3 ≠ 0 ∨ 4096 < y8 ∨ 2147483647 < y4) → Hid (V = .tuple #[.int .i64 0, .int .i64 0, .int .i64 4]) := fun h => Lib.hid (Hv1.out h)
  cases b0 with
  | true =>
    have Hv := bad (.inl (by have : (x0 : Int) ≠ 197 := by simpa using p0
                             omega))
    clear Hv1 Hv0 bad
    go_wp2_with fail
    go_returns
    exact ⟨by rw [Hv.out]; rfl, HW.out⟩
  | false =>
  have r0 : x0 = 197 := by have : (x0 : Int) = 197 := by simpa using p0
                           omega
  cases b1 with
  | true =>
    have Hv := bad (.inr (.inl (by have : (x1 : Int) ≠ 126 := by simpa using p1
                                   omega)))
    clear Hv1 Hv0 r0 bad
    go_wp2_with fail
    go_returns
    exact ⟨by rw [Hv.out]; rfl, HW.out⟩
  | false =>
  have r1 : x1 = 126 := by have : (x1 : Int) = 126 := by simpa using p1
                           omega
  cases b3 with
  | true =>
    have Hv := bad (.inr (.inr (.inl (by have : (x3 : Int) ≠ 0 := by simpa using p3
                                         omega))))
    clear Hv1 Hv0 r0 r1 bad
    go_wp2_with fail
    go_returns
    exact ⟨by rw [Hv.out]; rfl, HW.out⟩
  | false =>
  have r3 : x3 = 0 := by have : (x3 : Int) = 0 := by simpa using p3
                         omega
  cases b8 with
  | true =>
    have Hv := bad (.inr (.inr (.inr (.inl (by have : 4096 < (y8 : Int) := by simpa using p8
                                               omega)))))
    clear Hv1 Hv0 r0 r1 r3 bad
    go_wp2_with fail
    go_returns
    exact ⟨by rw [Hv.out]; rfl, HW.out⟩
  | false =>
  have r8 : y8 ≤ 4096 := by have : (y8 : Int) ≤ 4096 := by simpa using p8
                            omega
  cases b4 with
  | true =>
    have Hv := bad (.inr (.inr (.inr (.inr (by have : 2147483647 < (y4 : Int) := by simpa using p4
                                               omega)))))
    clear Hv1 Hv0 r0 r1 r3 r8 bad
    go_wp2_with fail
    go_returns
    exact ⟨by rw [Hv.out]; rfl, HW.out⟩
  | false =>
    have r4 : y4 ≤ 2147483647 := by have : (y4 : Int) ≤ 2147483647 := by simpa using p4
                                    omega
    have Hv := Lib.hid (Hv0.out (by rintro (h | h | h | h | h) <;> omega))
    clear Hv1 Hv0 r0 r1 r3 r8 r4 bad
    go_wp2_with fail
    go_returns
    exact ⟨by rw [Hv.out]; rfl, HW.out⟩
set_option maxHeartbeats 4000000 in
theorem checksum_any (A : Option Addr) (cap : Nat) (l : List Nat) (hl : ∀ x ∈ l, x < 256) (m n : Nat) (hn : n = l.length) (h12 : 12 ≤ n) (hm : 16 + m ≤ n) (hcap : n ≤ cap) (hlen : n ≤ 1000000000) {W w : World} (hb : Below W.heap.size W w) (hsl : Sl w w.heap.size A (byts l)) :
    Calls Try.prog 66 #[.slice A n cap, .int .i64 (m : Int)] w fun e w' => e = .returned (.int .u32 ((sum (l.take 12 ++ (l.drop 16).take m) : Nat) : Int)) ∧ Below W.heap.size W w' := by
  obtain ⟨i0, hi0, hz0, hs0, hb0⟩ := byte_parts (P := Try.prog) (e := 5) (by kernel_rfl)
  obtain ⟨T2, hT2⟩ : ∃ T2 : Nat, T2 = 16 + m := ⟨_, rfl⟩
  have hsum : (16 : Int) + (m : Int) = (T2 : Int) := by omega
  have hcut : ∀ w, (Instr.slice 22 (.slice A n cap) (some (.int .i64 16)) (some (.int .i64 (T2 : Int))) none).run Try.prog w = .ok (.slice (cutA A cap 16) m (cap - 16)) w := fun w => by
    have := run_slice_mid (P := Try.prog) Try.underlying22 hi0 hs0 A n cap 16 T2 (by omega) (by omega) w
    rw [show T2 - 16 = m by omega] at this
    exact this
  have hcut2 : ∀ w, (Instr.slice 22 (.slice A n cap) none (some (.int .i64 12)) none).run Try.prog w = .ok (.slice A 12 cap) w := fun w =>
    run_slice_to (P := Try.prog) Try.underlying22 hi0 A n cap 12 (by omega) w
  have hwr : IntKind.i64.wrap (T2 : Int) = (T2 : Int) := IntWalk.i64_in _ (by omega)
  have hwr2 : IntKind.i64.wrap ((16 : Int) + (m : Int)) = (T2 : Int) := by rw [hsum]; exact hwr
  have hlt : (l.take 12).length = 12 := by rw [List.length_take]; omega
  have hld : ((l.drop 16).take m).length = m := by rw [List.length_take, List.length_drop]; omega
  have S1 : ∀ w', Below w.heap.size w w' → Calls Try.prog 88 #[.slice A 12 cap] w' fun e w'' => e = .returned (.int .u32 ((sum (l.take 12) : Nat) : Int)) ∧ Below w.heap.size w w'' := fun w' h => by
    have := sum_rel A cap (l.take 12) (fun x hx => hl x (List.mem_of_mem_take hx)) (by omega) h (by rw [← byts_take]; exact (sl_keep hsl h).to 12)
    rwa [hlt] at this
  have S2 : ∀ w', Below w.heap.size w w' → Calls Try.prog 87 #[.int .u32 ((sum (l.take 12) : Nat) : Int), .slice (cutA A cap 16) m (cap - 16)] w' fun e w'' => e = .returned (.int .u32 ((sum (l.take 12 ++ (l.drop 16).take m) : Nat) : Int)) ∧ Below w.heap.size w w'' := fun w' h => by
    have := more_rel (sum (l.take 12)) (more_lt (by decide) _) (cutA A cap 16) (cap - 16) ((l.drop 16).take m) (fun x hx => hl x (List.mem_of_mem_drop (List.mem_of_mem_take hx))) (by omega) h (by
      rw [← byts_take, ← byts_drop]
      exact ((sl_keep hsl h).from (by rw [byts_length, ← hn]; exact hcap)).to _)
    rwa [hld, ← sum_append] at this
  have hs12 : sum (l.take 12) < 4294967296 := more_lt (by decide) _
  have hsA : sum (l.take 12 ++ (l.drop 16).take m) < 4294967296 := more_lt (by decide) _
  have H1 := Lib.hid S1
  have H2 := Lib.hid S2
  have HB := Lib.hid hb
  have hbc : Below w.heap.size w w := Below.refl _ _
  clear S1 S2 hb hsl hl hn hld hlt
  generalize sum (l.take 12) = X1 at *
  generalize sum (l.take 12 ++ (l.drop 16).take m) = X2 at *
  generalize cutA A cap 16 = A16 at *
  clear hT2
  go_enter Try.func66, Try.ntmps66
  go_wp2_with fail
  go_region_with (first
    | (go_at_call 88; ((with_reducible refine (H1.out _ (by first | exact hbc | exact hbc.drew | exact hbc.drewN _)).mono ?_); rintro e w' ⟨rfl, hbc⟩))
    | (go_at_call 87; ((with_reducible refine (H2.out _ (by first | exact hbc | exact hbc.drew | exact hbc.drewN _)).mono ?_); rintro e w' ⟨rfl, hbc⟩)))
  all_goals (go_wp2_with fail; go_ret; exact ⟨rfl, HB.out.trans (hbc.mono HB.out.size)⟩)
end Go.Proofs.Ytaainefdjbmekaa
namespace Go.Proofs.Ytaainefdjbmekaa
open Go.RowKit Crc
theorem set4 (p r : List Nat) (q0 q1 q2 q3 v0 v1 v2 v3 : Nat) : ((((p ++ ([q0, q1, q2, q3] ++ r)).set p.length v0).set (p.length + 1) v1).set (p.length + 2) v2).set (p.length + 3) v3 = p ++ ([v0, v1, v2, v3] ++ r) := by
  simp
theorem at4 (p r : List Nat) (q0 q1 q2 q3 : Nat) : (p ++ ([q0, q1, q2, q3] ++ r)).length = p.length + 4 + r.length := by simp; omega
set_option maxHeartbeats 4000000 in
theorem put_any (g k n c : Nat) (p r : List Nat) (q0 q1 q2 q3 : Nat) (hk : k = p.length) (hn : 4 ≤ n) (hnb : n ≤ 1000000000) (x : Nat) (hx : x < 4294967296) {w : World} (hb : ByBlk w g (p ++ ([q0, q1, q2, q3] ++ r))) :
    Calls Try.prog 65 #[.slice (some ⟨g, k, none⟩) n c, .int .u32 (x : Int)] w fun e w' => e = .returned (.tuple #[]) ∧ ByBlk w' g (p ++ (le4 x ++ r)) ∧ Chg (· = g) w w' := by
  have hlen := at4 p r q0 q1 q2 q3
  generalize hL0 : p ++ ([q0, q1, q2, q3] ++ r) = L0 at *
  have HL0 := Lib.hid hL0
  have c0 := byblk_cell hb (i := k) (by omega)
  have f0 := Blk.frozen hb k
  have B1 : ByBlk (w.setCell ⟨g, k, none⟩ (.int .u8 ((x : Int) % 256))) g (L0.set k (x % 256)) := byblk_set hb k (x % 256) (by simp)
  have C1 : Chg (· = g) w (w.setCell ⟨g, k, none⟩ (.int .u8 ((x : Int) % 256))) := Chg.setCell (F := (· = g)) (Chg.refl _ _) (p := ⟨g, k, none⟩) (.inl rfl) _
  have HB1 := Lib.hid B1
  have HC1 := Lib.hid C1
  have Hlen := Lib.hid hlen
  have HK := Lib.hid hk
  clear hb B1 C1 hL0 hlen hk
  go_enter Try.func65, Try.ntmps65
  go_wp2_with fail
  refine wp_loop_rounds 5 ?_
  rw [rounds_succ]
  go_wp2_with fail
  clear c0 f0
  generalize w.setCell ⟨g, k, none⟩ (.int .u8 ((x : Int) % 256)) = w1 at *
  have c1 := byblk_cell HB1.out (i := k + 1) (by have := Hlen.out; have := HK.out; rw [List.length_set]; omega)
  have f1 := Blk.frozen HB1.out (k + 1)
  have HB2 := Lib.hid (byblk_set HB1.out (k + 1) (x / 256 % 256) (v := .int .u8 ((x : Int) / 256 % 256)) (by simp))
  have HC2 := Lib.hid (HC1.out.setCell (p := ⟨g, k + 1, none⟩) (.inl rfl) (.int .u8 ((x : Int) / 256 % 256)))
  clear HB1 HC1
  rw [rounds_succ]
  go_wp2_with fail
  clear c1 f1
  generalize w1.setCell ⟨g, k + 1, none⟩ (.int .u8 ((x : Int) / 256 % 256)) = w2 at *
  have c2 := byblk_cell HB2.out (i := k + 2) (by have := Hlen.out; have := HK.out; rw [List.length_set, List.length_set]; omega)
  have f2 := Blk.frozen HB2.out (k + 2)
  have HB3 := Lib.hid (byblk_set HB2.out (k + 2) (x / 65536 % 256) (v := .int .u8 ((x : Int) / 65536 % 256)) (by simp))
  have HC3 := Lib.hid (HC2.out.setCell (p := ⟨g, k + 2, none⟩) (.inl rfl) (.int .u8 ((x : Int) / 65536 % 256)))
  clear HB2 HC2
  rw [rounds_succ]
  go_wp2_with fail
  clear c2 f2
  generalize w2.setCell ⟨g, k + 2, none⟩ (.int .u8 ((x : Int) / 65536 % 256)) = w3 at *
  have c3 := byblk_cell HB3.out (i := k + 3) (by have := Hlen.out; have := HK.out; rw [List.length_set, List.length_set, List.length_set]; omega)
  have f3 := Blk.frozen HB3.out (k + 3)
  have HB4 := Lib.hid (byblk_set HB3.out (k + 3) (x / 16777216 % 256) (v := .int .u8 ((x : Int) / 16777216)) (by congr 1; omega))
  have HC4 := Lib.hid (HC3.out.setCell (p := ⟨g, k + 3, none⟩) (.inl rfl) (.int .u8 ((x : Int) / 16777216)))
  clear HB3 HC3
  rw [rounds_succ]
  go_wp2_with fail
  clear c3 f3
  rw [rounds_succ]
  go_wp2_with fail
  refine bodyPost_end (results_none rfl _ _ _) rfl ?_
  refine ⟨rfl, ?_, HC4.out⟩
  have h4 := HB4.out
  rw [← HL0.out] at h4
  have e : ((((p ++ ([q0, q1, q2, q3] ++ r)).set k (x % 256)).set (k + 1) (x / 256 % 256)).set (k + 2) (x / 65536 % 256)).set (k + 3) (x / 16777216 % 256) = p ++ (le4 x ++ r) := by rw [HK.out, set4]; rfl
  rwa [e] at h4
end Go.Proofs.Ytaainefdjbmekaa
