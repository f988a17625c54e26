/- The program's source of bytes and bits: take, bit, end. The program's source: one bit, its end. The program's table of lengths. -/
import Derived.Test.YtnkgcibdibgmjaaWpl
import Derived.Test.YtnkgcibdibgmjaaBy
import Derived.Recover
import Derived.Deep.LoopGhost
import Derived.LoopTactic
import Derived.Test.YtnkgcibdibgmjaaRunpw
import Derived.Deep.QuietTactic
namespace Go.Proofs.Ytnkgcibdibgmjaa
open Go.RowKit

/-- Block S is a source in front of the bytes l, k bits of the byte beg that has been begun are left; the bytes lie in memory older than B. -/
structure WSrc (w : World) (B S : Nat) (l : List Nat) (beg k : Nat) : Prop where
  bS : B ≤ S
  lt : ∀ x ∈ l, x < 256
  len : l.length ≤ 100000
  begLt : beg < 256
  few : k ≤ 8
  low : beg % 2 ^ (8 - k) = 0
  ex : ∃ A c, Blk w S 102 #[.slice A l.length c, .int .u8 (beg : Int), .int .i64 (k : Int)] ∧ l.length ≤ c ∧ (A = none → c = 0) ∧ Sl w B A (byts l)
section
variable {w w' : World} {B S beg k : Nat} {l : List Nat}
theorem WSrc.keep (h : WSrc w B S l beg k) (hS : w'.heap[S]? = w.heap[S]?) (hb : Below B w w') : WSrc w' B S l beg k := by
  obtain ⟨A, c, hblk, hlc, hA, hsl⟩ := h.ex
  exact ⟨h.bS, h.lt, h.len, h.begLt, h.few, h.low, A, c, hblk.keep hS, hlc, hA, hsl.below hb⟩
theorem WSrc.lt_heap (h : WSrc w B S l beg k) : S < w.heap.size := by
  obtain ⟨A, c, hblk, _⟩ := h.ex
  exact hblk.lt
theorem WSrc.blk1 (h : WSrc w B S l beg k) : w.cell? ⟨S, 1, none⟩ = some (.int .u8 (beg : Int)) ∧ w.frozen? ⟨S, 1, none⟩ = false := by
  obtain ⟨A, c, hblk, _⟩ := h.ex
  exact ⟨hblk.cell 1, hblk.frozen 1⟩
theorem WSrc.blk2 (h : WSrc w B S l beg k) : w.cell? ⟨S, 2, none⟩ = some (.int .i64 (k : Int)) ∧ w.frozen? ⟨S, 2, none⟩ = false := by
  obtain ⟨A, c, hblk, _⟩ := h.ex
  exact ⟨hblk.cell 2, hblk.frozen 2⟩
/-- Another byte begun, with other bits left. -/
theorem WSrc.set12 (h : WSrc w B S l beg k) {beg' k' : Nat} (hb : beg' < 256) (hk : k' ≤ 8) (hl : beg' % 2 ^ (8 - k') = 0) : WSrc ((w.setCell ⟨S, 1, none⟩ (.int .u8 (beg' : Int))).setCell ⟨S, 2, none⟩ (.int .i64 (k' : Int))) B S l beg' k' := by
  obtain ⟨A, c, hblk, hlc, hA, hsl⟩ := h.ex
  refine ⟨h.bS, h.lt, h.len, hb, hk, hl, A, c, ?_, hlc, hA, hsl.below (((Below.refl B w).setCell (p := ⟨S, 1, none⟩) h.bS _).setCell (p := ⟨S, 2, none⟩) h.bS _)⟩
  have := (hblk.set_ 1 (.int .u8 (beg' : Int))).set_ 2 (.int .i64 (k' : Int))
  simpa using this
end
/-- A call that changes the source alone. -/
abbrev ChW (S : Nat) (w w' : World) : Prop := Chg (fun b => b = S) w w'
theorem ChW.below {w w' : World} {B S beg k : Nat} {l : List Nat} (h : ChW S w w') (hs : WSrc w B S l beg k) : Below B w w' := Chg.below h (Nat.le_trans hs.bS (Nat.le_of_lt hs.lt_heap)) (fun _ e => by rw [e]; exact hs.bS)
abbrev wShort : Ending := .panicked [{ v := .iface 34 (.int .i64 2), recovered := false }]

set_option maxHeartbeats 1000000 in
theorem wtake_ok {w : World} {B S x beg k : Nat} {r : List Nat} (h : WSrc w B S (x :: r) beg k) :
    Calls Try.prog 74 #[.pointer (some ⟨S, 0, none⟩)] w fun e w' => e = .returned (.int .u8 (x : Int)) ∧ WSrc w' B S r beg k ∧ ChW S w w' := by
  obtain ⟨A, c, hblk, hlc, hA, hsl⟩ := h.ex
  obtain ⟨b, o, rfl, hb, hcell⟩ := hsl.at_ (i := 0) (by simp [byts])
  have cx : w.cell? ⟨b, o, none⟩ = some (.int .u8 (x : Int)) := by simpa [byts] using hcell 0 (by simp [byts])
  obtain ⟨i0, hi0, _, hs0, _⟩ := byte_parts (P := Try.prog) (e := 5) (by kernel_rfl)
  have cut2 := run_slice_from (P := Try.prog) Try.underlying22 hi0 hs0 (some ⟨b, o, none⟩) (x :: r).length c 1 (by simp)
  rw [show ((1 : Nat) : Int) = 1 from rfl] at cut2
  obtain ⟨A1, hA1⟩ : ∃ A1, A1 = cutA (some ⟨b, o, none⟩) c 1 := ⟨_, rfl⟩
  rw [← hA1] at cut2
  have c0 : w.cell? ⟨S, 0, none⟩ = some (.slice (some ⟨b, o, none⟩) (x :: r).length c) := hblk.cell 0
  have f0 := hblk.frozen 0
  have HB := Lib.hid (hblk.set_ 0 (.slice A1 ((x :: r).length - 1) (c - 1)))
  have Hch := Lib.hid (fun v => (Chg.refl (fun b => b = S) w).setCell (p := ⟨S, 0, none⟩) (.inl rfl) v)
  have Hbel := Lib.hid (fun v => (Below.refl B w).setCell (p := ⟨S, 0, none⟩) h.bS v)
  have Hs := Lib.hid hsl
  have H := Lib.hid h
  have Hlen := Lib.hid (show (x :: r).length = r.length + 1 from rfl)
  have HA1 := Lib.hid hA1
  clear hblk hsl h hA hcell hA1
  generalize hn : (x :: r).length = n at *
  have q1 : ((n : Int) == 0) = false := by rw [beq_eq_false_iff_ne]; have := Hlen.out; omega
  have q2 : decide (0 < n) = true := by rw [decide_eq_true_eq]; have := Hlen.out; omega
  have q3 : 0 < n := by have := Hlen.out; omega
  clear hn
  go_enter Try.func74, Try.ntmps74
  go_wp2_with fail
  go_ret
  refine ⟨rfl, ⟨H.out.bS, fun y hy => H.out.lt y (List.mem_cons_of_mem _ hy), ?_, H.out.begLt, H.out.few, H.out.low, A1, c - 1, ?_, ?_, ?_, ?_⟩, Hch.out _⟩
  · have := H.out.len; rw [List.length_cons] at this; omega
  · rw [show r.length = n - 1 by have := Hlen.out; omega]; exact HB.out
  · have := Hlen.out; omega
  · rw [HA1.out]
    unfold cutA
    by_cases hc : c = 1
    · intro _; omega
    · rw [if_neg hc]; intro hh; cases hh
  · have := (Hs.out.below (Hbel.out (.slice A1 (n - 1) (c - 1)))).from (k := 1) (cap := c) (by rw [byts_length]; have := Hlen.out; rw [List.length_cons]; omega)
    rw [← HA1.out] at this
    simpa [byts] using this
theorem wtake_no {w : World} {B S beg k : Nat} (h : WSrc w B S [] beg k) :
    Calls Try.prog 74 #[.pointer (some ⟨S, 0, none⟩)] w fun e w' => e = wShort ∧ w' = w := by
  obtain ⟨A, c, hblk, -⟩ := h.ex
  have c0 : w.cell? ⟨S, 0, none⟩ = some (.slice A 0 c) := hblk.cell 0
  clear hblk h
  go_enter Try.func74, Try.ntmps74
  go_wp2_with fail
  exact ⟨rfl, rfl, rfl⟩
end Go.Proofs.Ytnkgcibdibgmjaa

namespace Go.Proofs.Ytnkgcibdibgmjaa
open Go.RowKit

/-- Block S is a source in front of the bits bs. -/
def WBits (w : World) (B S : Nat) (bs : List Nat) : Prop := ∃ l beg k, WSrc w B S l beg k ∧ k < 8 ∧ bs = (Wd.bits8 beg).take k ++ Wd.bitsB l
theorem WSrc.bits {w : World} {B S : Nat} {l : List Nat} (h : WSrc w B S l 0 0) : WBits w B S (Wd.bitsB l) := ⟨l, 0, 0, h, by decide, rfl⟩
theorem WBits.keep {w w' : World} {B S : Nat} {bs : List Nat} (h : WBits w B S bs) (hS : w'.heap[S]? = w.heap[S]?) (hb : Below B w w') : WBits w' B S bs := by
  obtain ⟨l, beg, k, hs, hk, e⟩ := h
  exact ⟨l, beg, k, hs.keep hS hb, hk, e⟩
theorem WBits.lt_heap {w : World} {B S : Nat} {bs : List Nat} (h : WBits w B S bs) : S < w.heap.size := by
  obtain ⟨l, beg, k, hs, -⟩ := h
  exact hs.lt_heap
theorem WBits.bS {w : World} {B S : Nat} {bs : List Nat} (h : WBits w B S bs) : B ≤ S := by
  obtain ⟨l, beg, k, hs, -⟩ := h
  exact hs.bS

set_option maxHeartbeats 1000000 in
/-- What bit does where a byte has been begun. -/
theorem wbit_in {w : World} {B S beg k : Nat} {l : List Nat} (h : WSrc w B S l beg (k + 1)) :
    Calls Try.prog 75 #[.pointer (some ⟨S, 0, none⟩)] w fun e w' => e = .returned (.int .i64 ((beg / 128 : Nat) : Int)) ∧ WSrc w' B S l (beg * 2 % 256) k ∧ ChW S w w' := by
  have hbeg := h.begLt
  have hfew := h.few
  have hlow := Wd.bit_low beg hbeg k (by omega) h.low
  obtain ⟨c1, f1⟩ := h.blk1
  obtain ⟨c2, f2⟩ := h.blk2
  obtain ⟨b', hb'⟩ : ∃ b', b' = beg * 2 % 256 := ⟨_, rfl⟩
  rw [← hb'] at hlow ⊢
  have hb256 : b' < 256 := by omega
  have H2 := Lib.hid (h.set12 hb256 (show k ≤ 8 by omega) hlow)
  have q0 : (((k + 1 : Nat) : Int) == 0) = false := by rw [beq_eq_false_iff_ne]; omega
  obtain ⟨X, hX⟩ : ∃ X, X = beg / 128 := ⟨_, rfl⟩
  rw [← hX]
  have r1 : (beg : Int) / 128 = (X : Int) := by omega
  have r2 : IntKind.u8.wrap ((beg : Int) * 2) = (b' : Int) := by rw [IntKind.wrap_u8]; omega
  have r3 : ((k + 1 : Nat) : Int) - 1 = (k : Int) := by omega
  have Hch := Lib.hid (fun u v => ((Chg.refl (fun b => b = S) w).setCell (p := ⟨S, 1, none⟩) (.inl rfl) u).setCell (p := ⟨S, 2, none⟩) (.inl rfl) v)
  clear h hlow hX hb' hb256
  generalize hkk : k + 1 = kk at *
  have hkb : kk ≤ 8 := by omega
  clear hkk
  go_enter Try.func75, Try.ntmps75
  go_wp2_with fail
  go_ret
  exact ⟨rfl, H2.out, Hch.out _ _⟩

set_option maxHeartbeats 1000000 in
/-- What bit does where it begins a byte. -/
theorem wbit_new {w : World} {B S beg x : Nat} {r : List Nat} (h : WSrc w B S (x :: r) beg 0) :
    Calls Try.prog 75 #[.pointer (some ⟨S, 0, none⟩)] w fun e w' => e = .returned (.int .i64 ((x / 128 : Nat) : Int)) ∧ WSrc w' B S r (x * 2 % 256) 7 ∧ ChW S w w' := by
  have hx : x < 256 := h.lt x (List.mem_cons_self ..)
  have hlow := Wd.bit_low x hx 7 (by omega) (by simp; omega)
  obtain ⟨c2, f2⟩ := h.blk2
  obtain ⟨b', hb'⟩ : ∃ b', b' = x * 2 % 256 := ⟨_, rfl⟩
  rw [← hb'] at hlow ⊢
  have hb256 : b' < 256 := by omega
  obtain ⟨X, hX⟩ : ∃ X, X = x / 128 := ⟨_, rfl⟩
  rw [← hX]
  have r1 : (x : Int) / 128 = (X : Int) := by omega
  have r2 : IntKind.u8.wrap ((x : Int) * 2) = (b' : Int) := by rw [IntKind.wrap_u8]; omega
  have N := Lib.hid (wtake_ok h)
  have c2' : w.cell? ⟨S, 2, none⟩ = some (.int .i64 0) := c2
  have Hlow := Lib.hid hlow
  have Hb := Lib.hid hb256
  clear h hlow hX hb' hb256 c2
  go_enter Try.func75, Try.ntmps75
  go_wp2_with fail
  refine N.out.mono ?_
  rintro e w1 ⟨rfl, hs1, hc1⟩
  obtain ⟨d1, g1⟩ := hs1.blk1
  obtain ⟨d2, g2⟩ := hs1.blk2
  have H2 := Lib.hid ((hs1.set12 hx (show 8 ≤ 8 by omega) (by simp; omega)).set12 Hb.out (show 7 ≤ 8 by omega) Hlow.out)
  have Hch := Lib.hid (fun u v s t => ((((hc1.setCell (p := ⟨S, 1, none⟩) (.inl rfl) u).setCell (p := ⟨S, 2, none⟩) (.inl rfl) v).setCell (p := ⟨S, 1, none⟩) (.inl rfl) s).setCell (p := ⟨S, 2, none⟩) (.inl rfl) t))
  clear hs1 hc1 N f2 c2'
  go_wp2_with fail
  go_ret
  exact ⟨rfl, H2.out, Hch.out _ _ _ _⟩
/-- A bit. -/
theorem wbit_ok {w : World} {B S b : Nat} {bs : List Nat} (h : WBits w B S (b :: bs)) :
    Calls Try.prog 75 #[.pointer (some ⟨S, 0, none⟩)] w fun e w' => e = .returned (.int .i64 (b : Int)) ∧ WBits w' B S bs ∧ ChW S w w' := by
  obtain ⟨l, beg, k, hs, hk, e⟩ := h
  cases k with
  | zero =>
    cases l with
    | nil => simp [Wd.bitsB] at e
    | cons x r =>
      have hx : x < 256 := hs.lt x (List.mem_cons_self ..)
      have eb : b :: bs = Wd.bits8 x ++ Wd.bitsB r := by rw [e]; simp [Wd.bitsB]
      have e8 : Wd.bits8 x = (x / 128) :: (Wd.bits8 (x * 2 % 256)).take 7 := by
        have := Wd.bit_next x hx 7 (by omega)
        rwa [List.take_of_length_le (by rw [Wd.bits8_len]; exact Nat.le_refl _)] at this
      rw [e8, List.cons_append] at eb
      injection eb with e1 e2
      subst e1; subst e2
      exact (wbit_new hs).mono fun e w' h => ⟨h.1, ⟨r, _, 7, h.2.1, by decide, rfl⟩, h.2.2⟩
  | succ k =>
    rw [Wd.bit_next beg hs.begLt k (by omega), List.cons_append] at e
    injection e with e1 e2
    subst e1; subst e2
    exact (wbit_in hs).mono fun e w' h => ⟨h.1, ⟨l, _, k, h.2.1, by omega, rfl⟩, h.2.2⟩
theorem wbit_no {w : World} {B S : Nat} (h : WBits w B S []) :
    Calls Try.prog 75 #[.pointer (some ⟨S, 0, none⟩)] w fun e w' => e = wShort ∧ w' = w := by
  obtain ⟨l, beg, k, hs, hk, e⟩ := h
  obtain ⟨ek, el⟩ := List.append_eq_nil_iff.1 e.symm
  have hl : l = [] := by
    cases l with
    | nil => rfl
    | cons x r => simp [Wd.bitsB, Wd.bits8] at el
  have h0 : k = 0 := by
    have := congrArg List.length ek
    rw [List.length_take, Wd.bits8_len] at this
    simp at this
    omega
  subst hl; subst h0
  have N := Lib.hid (wtake_no hs)
  obtain ⟨c2, f2⟩ := hs.blk2
  have c2' : w.cell? ⟨S, 2, none⟩ = some (.int .i64 0) := c2
  clear hs e ek el c2 f2
  go_enter Try.func75, Try.ntmps75
  go_wp2_with fail
  refine N.out.mono ?_
  rintro e w1 ⟨rfl, rfl⟩
  go_wp2_with fail
  exact ⟨rfl, rfl, rfl⟩

/-- What is wrong with bits that are left. -/
def endE (bs : List Nat) : Nat := if 8 ≤ bs.length then 3 else if bs.any (· == 1) then 4 else 0
theorem endV_is (bs acc : List Nat) : Wd.endV bs acc = if endE bs = 0 then (acc, 0) else ([], endE bs) := by
  unfold Wd.endV endE
  by_cases h1 : 8 ≤ bs.length
  · rw [if_pos h1, if_pos h1]; rfl
  · rw [if_neg h1, if_neg h1]
    by_cases h2 : bs.any (· == 1) = true
    · rw [if_pos h2, if_pos h2]; rfl
    · rw [if_neg h2, if_neg h2]; rfl
theorem wend_any {w : World} {B S : Nat} {bs : List Nat} (h : WBits w B S bs) :
    Calls Try.prog 71 #[.pointer (some ⟨S, 0, none⟩)] w fun e w' => e = .returned (.int .i64 (endE bs : Int)) ∧ w' = w := by
  obtain ⟨l, beg, k, hs, hk, e⟩ := h
  obtain ⟨c1, -⟩ := hs.blk1
  obtain ⟨A, c, hblk, -⟩ := hs.ex
  have c0 : w.cell? ⟨S, 0, none⟩ = some (.slice A l.length c) := hblk.cell 0
  have hlen : bs.length = k + 8 * l.length := by
    rw [e, List.length_append, Wd.bitsB_len, List.length_take, Wd.bits8_len]; omega
  have hend := Wd.bit_end beg hs.begLt k hk hs.low
  cases l with
  | cons x r =>
    have hE : endE bs = 3 := by
      unfold endE
      rw [if_pos (by rw [hlen, List.length_cons]; omega)]
    rw [hE]
    have q0 : decide (0 < (((x :: r).length : Nat) : Int)) = true := by rw [decide_eq_true_eq, List.length_cons]; omega
    have q0' : decide (0 < (x :: r).length) = true := by rw [decide_eq_true_eq, List.length_cons]; omega
    clear hE hend hlen hblk hs e
    generalize (x :: r).length = n at *
    go_enter Try.func71, Try.ntmps71
    go_wp2_with fail
    go_ret
    exact ⟨rfl, rfl⟩
  | nil =>
    have hE : endE bs = if (beg != 0) = true then 4 else 0 := by
      unfold endE
      rw [if_neg (by rw [hlen, List.length_nil]; omega), e, show Wd.bitsB [] = [] from rfl, List.append_nil, hend]
    have c0' : w.cell? ⟨S, 0, none⟩ = some (.slice A 0 c) := c0
    by_cases hb : beg = 0
    · subst hb
      have hE' : endE bs = 0 := hE
      rw [hE']
      have c1' : w.cell? ⟨S, 1, none⟩ = some (.int .u8 0) := c1
      clear hE hE' hend hlen hblk hs e c0 c1
      go_enter Try.func71, Try.ntmps71
      go_wp2_with fail
      go_ret
      exact ⟨rfl, rfl⟩
    · have q1 : ((beg : Int) != 0) = true := by rw [bne_iff_ne]; omega
      have q1' : (beg != 0) = true := by rw [bne_iff_ne]; exact hb
      rw [if_pos q1'] at hE
      rw [hE]
      clear hE hend hlen hblk hs e c0
      go_enter Try.func71, Try.ntmps71
      go_wp2_with fail
      go_ret
      exact ⟨rfl, rfl⟩
end Go.Proofs.Ytnkgcibdibgmjaa

namespace Go.Proofs.Ytnkgcibdibgmjaa
open Go.RowKit

/-- How table ends. -/
def TabR (l : List Nat) (B S : Nat) (w : World) (e : Ending) (w' : World) : Prop :=
  ChW S w w' ∧ ((∃ L rest, Wd.rdT l [] = (0, L, rest) ∧ e = .returned (.tuple #[.agg (ints L), .int .i64 0]) ∧ WSrc w' B S rest 0 0 ∧ L.length = 256 ∧ ∀ x ∈ L, 0 ≤ x ∧ x ≤ 11)
    ∨ (∃ P : List Int, P.length = 256 ∧ Wd.rdT l [] = (4, [], []) ∧ e = .returned (.tuple #[.agg (ints P), .int .i64 4])) ∨ (Wd.rdT l [] = (2, [], []) ∧ e = wShort))

/-- Between two entries. -/
structure Tab (W wr : World) (B S g1 G : Nat) (t : TypeId) (Z : Array Value) (R : Nat × List Int × List Nat) (q : List Nat) (acc : List Int) : Prop where
  src : WSrc wr B S q 0 0
  chg : ChW S W wr
  out : Blk wr g1 t Z
  arr : Blk wr G t (ints (pad acc))
  rng : ∀ x ∈ acc, 0 ≤ x ∧ x ≤ 11
  few : acc.length ≤ 256
  is : Wd.rdT q acc = R
theorem Tab.took {W wr w1 : World} {B S g1 G : Nat} {t : TypeId} {Z : Array Value} {R : Nat × List Int × List Nat} {q q' : List Nat} {acc : List Int} (h : Tab W wr B S g1 G t Z R q acc) (_ : WSrc w1 B S q' 0 0) (hc : ChW S wr w1) (h1 : g1 ≠ S) (h2 : G ≠ S) :
    ChW S W w1 ∧ Blk w1 g1 t Z ∧ Blk w1 G t (ints (pad acc)) := ⟨h.chg.then_ hc, h.out.keep (hc.block _ h.out.lt h1), h.arr.keep (hc.block _ h.arr.lt h2)⟩

set_option maxRecDepth 8000 in
set_option maxHeartbeats 8000000 in
theorem wtable_any {w : World} {B S : Nat} {l : List Nat} (h : WSrc w B S l 0 0) :
    Calls Try.prog 68 #[.pointer (some ⟨S, 0, none⟩)] w (TabR l B S w) := by
  obtain ⟨t, N, ht, hN, hagg, hix, hund, hsz, hz0⟩ := t256
  obtain ⟨Z, hZ⟩ : ∃ Z, Z = ints (List.replicate 256 0) := ⟨_, rfl⟩
  rw [← hZ] at hz0
  obtain ⟨R, hR⟩ : ∃ R, R = Wd.rdT l [] := ⟨_, rfl⟩
  have HR0 := Lib.hid hR
  have HZ := Lib.hid hZ
  have HN := Lib.hid hN
  have Hix := Lib.hid hix
  have Ht := Lib.hid ht
  have E1 : Op.alloc 50 = Op.alloc t := by rw [ht]
  have E2 : ∀ a b, Op.store 50 a b = Op.store t a b := by rw [ht]; exact fun _ _ => rfl
  have E3 : ∀ a b, Op.indexAddr 50 a b = Op.indexAddr t a b := by rw [ht]; exact fun _ _ => rfl
  have E4 : ∀ a, Op.load 50 a = Op.load t a := by rw [ht]; exact fun _ => rfl
  obtain ⟨W1, hW1⟩ : ∃ x, x = w.alloc (.cells Z t) := ⟨_, rfl⟩
  obtain ⟨W2, hW2⟩ : ∃ x, x = W1.alloc (.cells Z t) := ⟨_, rfl⟩
  obtain ⟨g1, hg1⟩ : ∃ g, w.heap.size = g := ⟨_, rfl⟩
  obtain ⟨G, hG⟩ : ∃ g, W1.heap.size = g := ⟨_, rfl⟩
  have h12 : G = g1 + 1 := by rw [← hG, hW1, ← hg1]; simp
  have hSw : S < w.heap.size := h.lt_heap
  have hal : Below w.heap.size w W2 := by rw [hW2, hW1]; exact ((Below.refl _ _).alloc (Nat.le_refl _) _).alloc (by simp) _
  have T0 := Lib.hid (show Tab w W2 B S g1 G t Z R l [] from by
    refine ⟨h.keep (hal.block S hSw) (hal.mono (Nat.le_trans h.bS (Nat.le_of_lt hSw))), ?_, ?_, ?_, by simp, by simp, hR.symm⟩
    · rw [hW2, hW1]; exact ((Chg.refl _ w).alloc _).alloc _
    · have := (Blk.new w t Z).alloc (.cells Z t)
      rw [hW2, hW1, ← hg1]; exact this
    · rw [pad_nil, ← HZ.out, hW2, ← hG]; exact Blk.new _ _ _)
  have e1 : w.alloc (.cells Z t) = W1 := hW1.symm
  have e2 : W1.alloc (.cells Z t) = W2 := hW2.symm
  have hd12 : g1 ≠ G := by omega
  have hd1 : g1 ≠ S := by omega
  have hd2 : G ≠ S := by omega
  have hgw : w.heap.size ≤ g1 := by omega
  have hgw2 : w.heap.size ≤ G := by omega
  have hBG : B ≤ G := by have := h.bS; omega
  clear ht hZ hix hN hW1 hW2 h12 hR hal h
  go_enter Try.func68, Try.ntmps68
  simp only [E1, E2, E3, E4]
  clear E1 E2 E3 E4
  go_wp2_with fail
  go_loopg [5] l.length (fun d k wr => ∃ (q : List Nat) (acc : List Int), d = q.length ∧ k = .int .i64 ((acc.length : Nat) : Int) ∧ Tab w wr B S g1 G t Z R q acc)
  case atStart => exact ⟨l, [], rfl, rfl, T0.out⟩
  case round =>
    obtain ⟨q, acc, rfl, rfl, ht⟩ := hrel
    have T := Lib.hid ht
    have hac := ht.few
    clear ht T0 e1 e2 hg1 hG
    by_cases h256 : acc.length < 256
    · have p0 : decide (((acc.length : Nat) : Int) < 256) = true := by rw [decide_eq_true_eq]; omega
      have p0' : decide (acc.length < 256) = true := by rw [decide_eq_true_eq]; omega
      cases q with
      | nil =>
        have hr : R = (2, [], []) := by
          have := T.out.is
          rw [Wd.rdT, if_neg (by omega)] at this
          exact this.symm
        have HR := Lib.hid hr
        have N1 := Lib.hid (wtake_no T.out.src)
        clear hr
        go_wp2_with fail
        refine N1.out.mono ?_
        rintro e w1 ⟨rfl, rfl⟩
        go_wp2_with fail
        exact ⟨rfl, T.out.chg, .inr (.inr ⟨by rw [← HR0.out, HR.out], rfl⟩)⟩
      | cons x q =>
        have hx := T.out.src.lt x (List.mem_cons_self ..)
        have hrd := T.out.is
        rw [Wd.rdT, if_neg (by omega)] at hrd
        have Hrd := Lib.hid hrd
        have N1 := Lib.hid (wtake_ok T.out.src)
        clear hrd
        obtain ⟨X, hX⟩ : ∃ X : Nat, X = x / 16 := ⟨_, rfl⟩
        obtain ⟨r, hr⟩ : ∃ r : Nat, r = x % 16 := ⟨_, rfl⟩
        obtain ⟨M, hM⟩ : ∃ M : Nat, M = r + 1 := ⟨_, rfl⟩
        have hxI : (x : Int) / 16 = (X : Int) := by omega
        have hrI : (x : Int) % 16 = (r : Int) := by omega
        have hMI : (r : Int) + 1 = (M : Int) := by omega
        have hX16 : X < 16 := by omega
        have hr16 : r < 16 := by omega
        have HX := Lib.hid hX
        have Hr := Lib.hid hr
        have HM := Lib.hid hM
        have hM1 : M ≤ 16 := by omega
        have hM0 : 1 ≤ M := by omega
        clear hX hr hM
        go_wp2_with fail
        refine N1.out.mono ?_
        rintro e w1 ⟨rfl, hs1, hc1⟩
        obtain ⟨k1, k2, k3⟩ := T.out.took hs1 hc1 hd1 hd2
        have Hs1 := Lib.hid hs1
        have K1 := Lib.hid k1
        have K2 := Lib.hid k2
        have K3 := Lib.hid k3
        clear hs1 hc1 k1 k2 k3 N1
        by_cases hbad : 11 < X ∨ 256 < acc.length + M
        · have hr4 : R = (4, [], []) := by
            have := Hrd.out
            rw [if_pos (by rw [← HX.out, ← Hr.out, ← HM.out]; exact hbad)] at this
            exact this.symm
          have HR4 := Lib.hid hr4
          have hL : (pad acc).length = 256 := pad_len hac
          have l1 := load_blk (N := N) (by rw [ints_size, HN.out]; exact hL) K3.out
          obtain ⟨s1, hb2⟩ := store_blk (ds := ints (pad acc)) (by rw [HZ.out, ints_size, ints_size, List.length_replicate]; exact hL) K2.out (fun u hu => by
            have := ints_one (pad acc)
            rw [Array.all_eq_true_iff_forall_mem] at this
            exact this u (by simpa using hu))
          have l2 := load_blk (N := N) (by rw [ints_size, HN.out]; exact hL) hb2
          have hc2 : ChW S w (w1.setCells g1 0 (ints (pad acc)).toList) := chg_below K1.out (below_cells (w := w1) (ints (pad acc)).toList g1 0 hgw)
          obtain ⟨T1, hT⟩ : ∃ T, T = ints (pad acc) := ⟨_, rfl⟩
          have hTs : T1.size = N := by rw [hT, ints_size, HN.out]; exact hL
          rw [← hT] at l1 s1 l2 hc2
          obtain ⟨W3, hW3⟩ : ∃ W3, W3 = w1.setCells g1 0 T1.toList := ⟨_, rfl⟩
          rw [← hW3] at s1 l2 hc2
          have Fin := Lib.hid (show TabR l B S w (.returned (.tuple #[.agg T1, .int .i64 4])) W3 from ⟨hc2, .inr (.inl ⟨pad acc, hL, by rw [← HR0.out, HR4.out], by rw [hT]⟩)⟩)
          clear hr4 hb2 hc2 hT hW3 hL
          by_cases h11 : 11 < X
          · have p2 : decide (11 < (X : Int)) = true := by rw [decide_eq_true_eq]; omega
            have p2' : decide (11 < X) = true := by rw [decide_eq_true_eq]; omega
            clear hbad
            go_wp2_with fail
            refine bodyPost_ret (v := .tuple #[.agg T1, .int .i64 4]) ?_ rfl Fin.out
            simp [results, Try.results68]
            rw [← Ht.out]
            go_simp
          · have p2 : decide (11 < (X : Int)) = false := by rw [decide_eq_false_iff_not]; omega
            have p2' : decide (11 < X) = false := by rw [decide_eq_false_iff_not]; omega
            have p3 : decide ((256 : Int) - ((acc.length : Nat) : Int) < (M : Int)) = true := by rw [decide_eq_true_eq]; omega
            clear hbad
            go_wp2_with fail
            refine bodyPost_ret (v := .tuple #[.agg T1, .int .i64 4]) ?_ rfl Fin.out
            simp [results, Try.results68]
            rw [← Ht.out]
            go_simp
        have p2 : decide (11 < (X : Int)) = false := by rw [decide_eq_false_iff_not]; omega
        have p2' : decide (11 < X) = false := by rw [decide_eq_false_iff_not]; omega
        have p3 : decide ((256 : Int) - ((acc.length : Nat) : Int) < (M : Int)) = false := by rw [decide_eq_false_iff_not]; omega
        have hgd := Hrd.out
        rw [← HX.out, ← Hr.out, ← HM.out, if_neg hbad] at hgd
        have Hgd := Lib.hid hgd
        have hX11 : X ≤ 11 := by omega
        have hMl : acc.length + M ≤ 256 := by omega
        have Hrng := Lib.hid T.out.rng
        obtain ⟨lk, hlk⟩ : ∃ lk, lk = acc.length := ⟨_, rfl⟩
        have Hlk := Lib.hid hlk
        rw [← hlk] at p0 p0' p3 hMl h256 hac ⊢
        clear hgd Hrd hbad hlk T
        go_wp2_with fail
        go_loopw [5, 30] (fun s i wr => ∃ m : Nat, m ≤ M ∧ i = .int .i64 m ∧ s = .int .i64 ((lk + m : Nat) : Int) ∧ WSrc wr B S q 0 0 ∧ ChW S w wr ∧ Blk wr g1 t Z ∧ Blk wr G t (ints (pad (acc ++ List.replicate m ((X : Nat) : Int))))) (fun _ i _ => M - (intOf i).toNat)
        case atStart => exact ⟨0, Nat.zero_le _, rfl, rfl, Hs1.out, K1.out, K2.out, by rw [List.replicate_zero, List.append_nil]; exact K3.out⟩
        case round =>
          obtain ⟨m, hm, rfl, rfl, ds, dc, d1, d2⟩ := hrel
          clear Hs1 K1 K2 K3
          by_cases hmM : m < M
          · have p4 : decide ((m : Int) < (M : Int)) = true := by rw [decide_eq_true_eq]; omega
            have p4' : decide (m < M) = true := by rw [decide_eq_true_eq]; omega
            obtain ⟨k, hk⟩ : ∃ k : Nat, k = lk + m := ⟨_, rfl⟩
            have hk6 : k < 256 := by omega
            have hal : (acc ++ List.replicate m ((X : Nat) : Int)).length = k := by rw [List.length_append, List.length_replicate, ← Hlk.out]; omega
            have ixk := Hix.out .i64 k hk6 G
            have ck : wr.cell? ⟨G, k, none⟩ = some (.int .i64 ((pad (acc ++ List.replicate m ((X : Nat) : Int))).getD k 0)) := by rw [d2.cell, ints_at (by rw [pad_len (by omega)]; exact hk6)]
            have fk := d2.frozen k
            have st := d2.set_ k (.int .i64 (X : Int))
            have hps := pad_set (acc := acc ++ List.replicate m ((X : Nat) : Int)) (by omega) (X : Int)
            rw [hal] at hps
            rw [ints_set, hps, List.append_assoc, ← List.replicate_succ'] at st
            have St := Lib.hid st
            have D1 := Lib.hid (d1.far (p := ⟨G, k, none⟩) (Ne.symm hd12) (.int .i64 (X : Int)))
            have Dc := Lib.hid (dc.setCell (p := ⟨G, k, none⟩) (.inr hgw2) (.int .i64 (X : Int)))
            have hbw := (Below.refl G wr).setCell (p := ⟨G, k, none⟩) (Nat.le_refl _) (.int .i64 (X : Int))
            have Ds := Lib.hid (ds.keep (hbw.block S (by omega)) (hbw.mono hBG))
            have Hk := Lib.hid hk
            rw [← hk]
            clear d1 d2 ds dc st hps hal hbw hk
            generalize (pad (acc ++ List.replicate m ((X : Nat) : Int))).getD k 0 = y at *
            go_wp2_with fail
            go_roundw
            case rel => exact ⟨m + 1, by omega, by go_num, by rw [Hk.out]; go_num, Ds.out, Dc.out, D1.out, St.out⟩
            case measure => simp [intOf]; omega
          · have hmM' : M = m := by omega
            subst hmM'
            have p4 : decide ((M : Int) < (M : Int)) = false := by simp
            have p4' : decide (M < M) = false := by simp
            have D1 := Lib.hid d1
            have D2 := Lib.hid d2
            have Dc := Lib.hid dc
            have Ds := Lib.hid ds
            clear d1 d2 dc ds
            go_wp2_with fail
            go_roundg q.length
            case rel =>
              refine ⟨q, acc ++ List.replicate M ((X : Nat) : Int), rfl, ?_, ⟨Ds.out, Dc.out, D1.out, D2.out, fun x hx => ?_, ?_, Hgd.out⟩⟩
              · rw [List.length_append, List.length_replicate, ← Hlk.out]
              · rcases List.mem_append.1 hx with h | h
                · exact Hrng.out x h
                · rw [List.eq_of_mem_replicate h]; omega
              · rw [List.length_append, List.length_replicate, ← Hlk.out]; omega
            case measure => simp
    · have hac6 : acc.length = 256 := by omega
      have hr := T.out.is
      have hrd0 : Wd.rdT q acc = (0, acc, q) := by
        cases q with
        | nil => rw [Wd.rdT, if_pos hac6]
        | cons y r => rw [Wd.rdT, if_pos hac6]
      rw [hrd0] at hr
      have HR := Lib.hid hr
      have p0 : decide (((acc.length : Nat) : Int) < 256) = false := by rw [decide_eq_false_iff_not]; omega
      have p0' : decide (acc.length < 256) = false := by rw [decide_eq_false_iff_not]; omega
      have b2 := T.out.arr
      rw [pad_full hac6] at b2
      have l1 := load_blk (N := N) (by rw [ints_size, HN.out]; exact hac6) b2
      obtain ⟨s1, hb2⟩ := store_blk (ds := ints acc) (by rw [HZ.out, ints_size, ints_size, List.length_replicate]; exact hac6) T.out.out (fun u hu => by
        have := ints_one acc
        rw [Array.all_eq_true_iff_forall_mem] at this
        exact this u (by simpa using hu))
      have l2 := load_blk (N := N) (by rw [ints_size, HN.out]; exact hac6) hb2
      have hbw := below_cells (B := g1) (w := wr) (ints acc).toList g1 0 (Nat.le_refl _)
      have hc2 : ChW S w (wr.setCells g1 0 (ints acc).toList) := chg_below T.out.chg (hbw.mono hgw)
      have hs2 := T.out.src.keep (hbw.block S (by omega)) (hbw.mono (by have := T.out.src.bS; omega))
      obtain ⟨T1, hT⟩ : ∃ T, T = ints acc := ⟨_, rfl⟩
      have hTs : T1.size = N := by rw [hT, ints_size, HN.out]; exact hac6
      rw [← hT] at l1 s1 l2 hc2 hs2
      obtain ⟨W3, hW3⟩ : ∃ W3, W3 = wr.setCells g1 0 T1.toList := ⟨_, rfl⟩
      rw [← hW3] at s1 l2 hc2 hs2
      have Fin := Lib.hid (show TabR l B S w (.returned (.tuple #[.agg T1, .int .i64 0])) W3 from ⟨hc2, .inl ⟨acc, q, by rw [← HR0.out, ← HR.out], by rw [hT], hs2, hac6, T.out.rng⟩⟩)
      clear hr hrd0 b2 hb2 hbw hc2 hs2 hT hW3 hac6 hac T HR h256
      go_wp2_with fail
      refine bodyPost_ret (v := .tuple #[.agg T1, .int .i64 0]) ?_ rfl Fin.out
      simp [results, Try.results68]
      rw [← Ht.out]
      go_simp
end Go.Proofs.Ytnkgcibdibgmjaa
