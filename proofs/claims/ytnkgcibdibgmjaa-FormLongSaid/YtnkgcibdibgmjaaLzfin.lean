/- The program's finder: how it lies in memory; four, hash. The program's finder: size, find. -/
import Derived.Test.YtnkgcibdibgmjaaBy
import Derived.Test.YtnkgcibdibgmjaaLzpk
import Derived.LoopTactic
import Derived.Deep.LoopGhost
import Derived.Deep.RegionHeldLaw
import Derived.Deep.QuietTactic
namespace Go.Proofs.Ytnkgcibdibgmjaa
open Go.RowKit
/-- The cells of a finder that has seen nothing. -/
def fin0 (v : Value) : Array Value := (v :: (List.replicate 4096 (.int .i64 0) ++ [.int .i64 0])).toArray
theorem fin_zero : ∀ w, (zeroValue 46).run Try.prog w = .ok (.agg (fin0 (.slice none 0 0))) w := fun w => by kernel_rfl
theorem fin_size : ∀ w, (sizeOf 46).run Try.prog w = .ok 4098 w := fun w => by kernel_rfl

/-- Block g is a finder of the bytes l that has seen the places before n; the bytes lie in memory older than B. -/
structure Fin (w : World) (B g : Nat) (A : Option Addr) (c : Nat) (l : List Nat) (n : Nat) : Prop where
  bg : B ≤ g
  sl : Sl w B A (byts l)
  ex : ∃ cs : Array Value, Blk w g 46 cs ∧ cs.size = 4098 ∧ cs[0]? = some (.slice A l.length c) ∧ (∀ h, h < 4096 → cs[1 + h]? = some (.int .i64 ((Lz.seenV l n h : Nat) : Int))) ∧ cs[4097]? = some (.int .i64 (n : Int))
section
variable {w w' : World} {B g c n : Nat} {A : Option Addr} {l : List Nat}
theorem Fin.keep (h : Fin w B g A c l n) (hg : w'.heap[g]? = w.heap[g]?) (hb : Below B w w') : Fin w' B g A c l n := by
  obtain ⟨cs, h0, h1⟩ := h.ex
  exact ⟨h.bg, h.sl.below hb, cs, h0.keep hg, h1⟩
theorem Fin.lt (h : Fin w B g A c l n) : g < w.heap.size := by
  obtain ⟨cs, h0, h1⟩ := h.ex
  exact h0.lt
theorem Fin.data (h : Fin w B g A c l n) : w.cell? ⟨g, 0, none⟩ = some (.slice A l.length c) := by
  obtain ⟨cs, h0, _, h1, _⟩ := h.ex
  rw [h0.cell]; exact h1
theorem Fin.seen (h : Fin w B g A c l n) {k : Nat} (hk : k < 4096) : w.cell? ⟨g, 1 + k, none⟩ = some (.int .i64 ((Lz.seenV l n k : Nat) : Int)) := by
  obtain ⟨cs, h0, _, _, h1, _⟩ := h.ex
  rw [h0.cell]; exact h1 k hk
theorem Fin.next (h : Fin w B g A c l n) : w.cell? ⟨g, 4097, none⟩ = some (.int .i64 (n : Int)) := by
  obtain ⟨cs, h0, _, _, _, h1⟩ := h.ex
  rw [h0.cell]; exact h1
theorem Fin.frozen (h : Fin w B g A c l n) (k : Nat) : w.frozen? ⟨g, k, none⟩ = false := by
  obtain ⟨cs, h0, _⟩ := h.ex
  exact h0.frozen k
theorem Fin.drewN (h : Fin w B g A c l n) (k : Nat) : Fin (w.drewN k) B g A c l n := h.keep rfl ⟨rfl, rfl, rfl, Nat.le_refl _, fun _ _ => rfl⟩
/-- One place more is seen. -/
theorem Fin.step (h : Fin w B g A c l n) {k : Nat} (hk : Lz.hash (Lz.four l n) = k) : Fin ((w.setCell ⟨g, 1 + k, none⟩ (.int .i64 ((n + 1 : Nat) : Int))).setCell ⟨g, 4097, none⟩ (.int .i64 ((n + 1 : Nat) : Int))) B g A c l (n + 1) := by
  obtain ⟨cs, h0, h1, h2, h3, h4⟩ := h.ex
  have hk4 : k < 4096 := by rw [← hk]; exact Lz.hash_lt _
  refine ⟨h.bg, h.sl.below (((Below.refl B w).setCell (p := ⟨g, 1 + k, none⟩) h.bg _).setCell (p := ⟨g, 4097, none⟩) h.bg _), _, (h0.set_ (1 + k) _).set_ 4097 _, by simpa using h1, ?_, fun j hj => ?_, ?_⟩
  · rw [Array.getElem?_setIfInBounds_ne (by omega), Array.getElem?_setIfInBounds_ne (by omega)]; exact h2
  · rw [Array.getElem?_setIfInBounds_ne (by omega)]
    unfold Lz.seenV
    rw [hk]
    by_cases hkj : k = j
    · subst hkj
      rw [Array.getElem?_setIfInBounds_self_of_lt (by omega), if_pos rfl]
    · rw [Array.getElem?_setIfInBounds_ne (by omega), if_neg hkj]; exact h3 j hj
  · rw [Array.getElem?_setIfInBounds_self_of_lt (by simp; omega)]
end
theorem u32_or (a b : Nat) (ha : a < 4294967296) (hb : b < 4294967296) : bits .or .u32 (a : Int) (b : Int) = ((a ||| b : Nat) : Int) := by
  have hx : a ||| b < 2 ^ 32 := Nat.or_lt_two_pow (by omega) (by omega)
  show IntKind.u32.wrap ((BitVec.ofInt 32 (a : Int) ||| BitVec.ofInt 32 (b : Int)).toNat : Int) = _
  rw [BitVec.toNat_or, BitVec.ofInt_natCast, BitVec.ofInt_natCast, BitVec.toNat_ofNat, BitVec.toNat_ofNat, Nat.mod_eq_of_lt (by omega), Nat.mod_eq_of_lt (by omega), IntKind.wrap_u32]
  omega
theorem or_b32 (k a b : Nat) (hk : k ≤ 24) (ha : a < 2 ^ k) (hb : b < 256) : bits BinOp.or IntKind.u32 (a : Int) ((b : Int) * ((2 ^ k : Nat) : Int)) = ((a + b * 2 ^ k : Nat) : Int) := by
  have hp : 2 ^ k ≤ 2 ^ 24 := Nat.pow_le_pow_right (by decide) hk
  have h1 : b * 2 ^ k ≤ 255 * 2 ^ 24 := Nat.mul_le_mul (by omega) hp
  rw [← Int.natCast_mul, u32_or _ _ (by omega) (by omega), Nat.mul_comm b, Nat.or_comm, ← Nat.two_pow_add_eq_or_of_lt ha, Nat.add_comm]
theorem f8or {a b : Nat} (ha : a < 256) (hb : b < 256) : bits BinOp.or IntKind.u32 (a : Int) ((b : Int) * 256) = (a : Int) + (b : Int) * 256 := or_b32 8 a b (by decide) ha hb
theorem f16or {a b c : Nat} (ha : a < 256) (hb : b < 256) (hc : c < 256) : bits BinOp.or IntKind.u32 ((a : Int) + (b : Int) * 256) ((c : Int) * 65536) = (a : Int) + (b : Int) * 256 + (c : Int) * 65536 := or_b32 16 (a + b * 256) c (by decide) (by omega) hc
theorem f24or {a b c d : Nat} (ha : a < 256) (hb : b < 256) (hc : c < 256) (hd : d < 256) : bits BinOp.or IntKind.u32 ((a : Int) + (b : Int) * 256 + (c : Int) * 65536) ((d : Int) * 16777216) = (a : Int) + (b : Int) * 256 + (c : Int) * 65536 + (d : Int) * 16777216 := or_b32 24 (a + b * 256 + c * 65536) d (by decide) (by omega) hd
theorem f0or {a : Nat} (ha : a < 256) : bits BinOp.or IntKind.u32 0 (a : Int) = (a : Int) := by
  have := u32_or 0 a (by decide) (by omega)
  simpa using this

set_option maxRecDepth 4000 in
set_option maxHeartbeats 4000000 in
theorem four_any {w : World} {B g c n : Nat} {A : Option Addr} {l : List Nat} (h : Fin w B g A c l n) (hl : ∀ x ∈ l, x < 256) (hlc : l.length ≤ c) (a : Nat) (z : Int) (hz : z = (a : Int)) (ha : a + 4 ≤ l.length) (hlen : l.length ≤ 4096) :
    Calls Try.prog 39 #[.pointer (some ⟨g, 0, none⟩), .int .i64 z] w fun e w' => e = .returned (.int .u32 ((Lz.four l a : Nat) : Int)) ∧ w' = w := by
  subst hz
  obtain ⟨i0, hi0, _, hs0, _⟩ := byte_parts (P := Try.prog) (e := 5) (by kernel_rfl)
  obtain ⟨b, o, rfl, c0⟩ := sl_cell h.sl (k := a) (by omega)
  obtain ⟨b', o', e, c1⟩ := sl_cell h.sl (k := a + 1) (by omega)
  obtain ⟨rfl, rfl⟩ : b' = b ∧ o' = o := by simpa using e.symm
  obtain ⟨b'', o'', e, c2⟩ := sl_cell h.sl (k := a + 2) (by omega)
  obtain ⟨rfl, rfl⟩ : b'' = b' ∧ o'' = o' := by simpa using e.symm
  obtain ⟨b3, o3, e, c3⟩ := sl_cell h.sl (k := a + 3) (by omega)
  obtain ⟨rfl, rfl⟩ : b3 = b'' ∧ o3 = o'' := by simpa using e.symm
  have hcut : ∀ w, (Instr.slice 22 (.slice (some ⟨b3, o3, none⟩) l.length c) (some (.int .i64 (a : Int))) (some (.int .i64 ((a : Int) + 4))) none).run Try.prog w = .ok (.slice (some ⟨b3, o3 + a, none⟩) 4 (c - a)) w := fun w => by
    have := run_slice_mid (P := Try.prog) Try.underlying22 hi0 hs0 (some ⟨b3, o3, none⟩) l.length c a (a + 4) (by omega) (by omega) w
    rw [Int.natCast_add, show a + 4 - a = 4 by omega] at this
    unfold cutA at this
    rw [if_neg (by omega)] at this
    simpa [Addr.add_lit] using this
  have d0 := h.data
  have h0 := getB_lt hl a
  have h1 := getB_lt hl (a + 1)
  have h2 := getB_lt hl (a + 2)
  have h3 := getB_lt hl (a + 3)
  rw [← Nat.add_assoc] at c1 c2 c3
  unfold Lz.four
  generalize l.getD a 0 = x0 at *
  generalize l.getD (a + 1) 0 = x1 at *
  generalize l.getD (a + 2) 0 = x2 at *
  generalize l.getD (a + 3) 0 = x3 at *
  have haI : -9223372036854775808 ≤ (a : Int) + 4 ∧ (a : Int) + 4 ≤ 9223372036854775807 := by omega
  generalize l.length = N at *
  clear h hl
  have o00 := f0or h0
  have o0 := f8or h0 h1
  have oo1 := f16or h0 h1 h2
  have oo2 := f24or h0 h1 h2 h3
  go_enter Try.func39, Try.ntmps39
  go_wp2_with fail
  refine wp_loop_rounds 5 ?_
  rw [rounds_succ]
  go_wp2_with fail
  rw [rounds_succ]
  go_wp2_with fail
  rw [rounds_succ]
  go_wp2_with fail
  rw [rounds_succ]
  go_wp2_with fail
  rw [rounds_succ]
  go_wp2_with fail
  go_ret
  exact ⟨by simp, rfl⟩

set_option maxHeartbeats 1000000 in
theorem hash_any (x : Nat) (z : Int) (hz : z = (x : Int)) (w : World) :
    Calls Try.prog 38 #[.int .u32 z] w fun e w' => e = .returned (.int .u32 ((Lz.hash x : Nat) : Int)) ∧ w' = w := by
  subst hz
  have hw : IntKind.u32.wrap ((x : Int) * 2654435761) = ((x * 2654435761 % 4294967296 : Nat) : Int) := by rw [IntKind.wrap_u32]; omega
  have hd : ((x * 2654435761 % 4294967296 : Nat) : Int) / 1048576 = ((Lz.hash x : Nat) : Int) := by unfold Lz.hash; omega
  generalize x * 2654435761 % 4294967296 = y at *
  generalize Lz.hash x = hv at *
  go_enter Try.func38, Try.ntmps38
  go_wp2_with fail
  go_ret
  exact ⟨rfl, rfl⟩
end Go.Proofs.Ytnkgcibdibgmjaa

namespace Go.Proofs.Ytnkgcibdibgmjaa
open Go.RowKit

set_option maxRecDepth 4000 in
set_option maxHeartbeats 4000000 in
theorem size_any {w : World} {B g c n : Nat} {A : Option Addr} {l : List Nat} (h : Fin w B g A c l n) (p a : Nat) (zp za : Int) (hzp : zp = (p : Int)) (hza : za = (a : Int)) (hp : p < a) (ha : a + 9 ≤ l.length) (hlen : l.length ≤ 4096) :
    Calls Try.prog 22 #[.pointer (some ⟨g, 0, none⟩), .int .i64 zp, .int .i64 za] w fun e w' => e = .returned (.int .i64 ((Lz.sizeV l p a : Nat) : Int)) ∧ ∃ k, w' = w.drewN k := by
  subst hzp; subst hza
  have H := Lib.hid h
  have hs0 : Lz.sizeF l p a l.length 4 = Lz.sizeV l p a := rfl
  have Hs0 := Lib.hid hs0
  generalize Lz.sizeV l p a = Z at *
  clear h hs0
  go_enter Try.func22, Try.ntmps22
  go_wp2_with fail
  go_loopw [7] (fun v wr => ∃ (m f k : Nat), v = .int .i64 m ∧ Lz.sizeF l p a f m = Z ∧ l.length ≤ f + m ∧ a + m + 5 ≤ l.length ∧ wr = w.drewN k) (fun v _ => l.length - (intOf v).toNat)
  case atStart => exact ⟨4, l.length, 0, rfl, Hs0.out, by omega, by omega, rfl⟩
  case round =>
    obtain ⟨m, f, k, rfl, hz, hf, hm, rfl⟩ := hrel
    have d0 := H.out.data
    have hsl := H.out.sl
    have v1 : IntKind.i64.wrap ((a : Int) + (m : Int)) = (a : Int) + (m : Int) := by rw [IntKind.wrap_i64]; omega
    have v2 : IntKind.i64.wrap ((p : Int) + (m : Int)) = (p : Int) + (m : Int) := by rw [IntKind.wrap_i64]; omega
    obtain ⟨N, hN⟩ : ∃ N, N = l.length := ⟨_, rfl⟩
    have HN := Lib.hid hN
    have v3 : IntKind.i64.wrap ((N : Int) - 5) = (N : Int) - 5 := by rw [IntKind.wrap_i64]; omega
    by_cases hlt : a + m + 5 < l.length
    · have q1 : decide ((a : Int) + (m : Int) < (N : Int) - 5) = true := by rw [decide_eq_true_eq]; omega
      obtain ⟨b, o, e1, x1⟩ := sl_cell hsl (k := p + m) (by omega)
      obtain ⟨b', o', e2, x2⟩ := sl_cell hsl (k := a + m) (by omega)
      rw [e1] at e2
      obtain ⟨rfl, rfl⟩ : b' = b ∧ o' = o := by simpa using e2.symm
      obtain ⟨f, rfl⟩ : ∃ f', f = f' + 1 := ⟨f - 1, by omega⟩
      have hz2 : (if l.getD (p + m) 0 = l.getD (a + m) 0 then Lz.sizeF l p a f (m + 1) else m) = Z := by
        rw [← hz]
        conv => rhs; unfold Lz.sizeF
        by_cases h : l.getD (p + m) 0 = l.getD (a + m) 0
        · rw [if_pos h, if_pos ⟨hlt, h⟩]
        · rw [if_neg h, if_neg (fun hh => h hh.2)]
      rw [e1, ← hN] at d0
      have r1 : ((p : Int) + (m : Int)).toNat < N := by omega
      have r2 : ((a : Int) + (m : Int)).toNat < N := by omega
      have s1 : (p : Int) + (m : Int) < (N : Int) := by omega
      have s2 : (a : Int) + (m : Int) < (N : Int) := by omega
      have t1 : 0 ≤ (p : Int) + (m : Int) := by omega
      have t2 : 0 ≤ (a : Int) + (m : Int) := by omega
      have hNb : N ≤ 4096 := by omega
      generalize l.getD (p + m) 0 = y1 at *
      generalize l.getD (a + m) 0 = y2 at *
      have Hz2 := Lib.hid hz2
      have Hlt := Lib.hid hlt
      have Hf := Lib.hid hf
      clear hz2 hz hsl e1 e2 hN hlt hf hm
      by_cases hy : y1 = y2
      · subst hy
        have q2 : ((y1 : Int) == (y1 : Int)) = true := by simp
        go_wp2_with fail
        go_quiet (fail)
        go_wp2_with fail
        have h2 : Lz.sizeF l p a f (m + 1) = Z := by simpa using Hz2.out
        have h3 := Hlt.out
        have h4 := Hf.out
        exact ⟨⟨m + 1, f, k + nq, by go_num, h2, by omega, by omega, by simp⟩, by simp [intOf]; omega⟩
      · have q2 : ((y1 : Int) == (y2 : Int)) = false := by rw [beq_eq_false_iff_ne]; omega
        have q2' : (y1 == y2) = false := by rw [beq_eq_false_iff_ne]; omega
        have Hy := Lib.hid hy
        clear hy
        go_wp2_with fail
        go_quiet (fail)
        go_wp2_with fail
        go_ret
        have h2 := Hz2.out
        rw [if_neg Hy.out] at h2
        exact ⟨by rw [← h2]; rfl, k + nq, by simp⟩
    · have q1 : decide ((a : Int) + (m : Int) < (N : Int) - 5) = false := by rw [decide_eq_false_iff_not]; omega
      have hz2 : m = Z := by
        rw [← hz]
        cases f with
        | zero => rfl
        | succ f => unfold Lz.sizeF; rw [if_neg (fun hh => hlt hh.1)]
      have Hz2 := Lib.hid hz2
      rw [← hN] at d0
      clear hz2 hz hsl hN hlt hf hm
      go_wp2_with fail
      go_quiet (fail)
      go_wp2_with fail
      go_ret
      exact ⟨by rw [← Hz2.out]; rfl, k + nq, by simp⟩

theorem index4096 {k : Nat} (hk : k < 4096) (g : Nat) (w : World) : (Instr.indexAt 44 (.pointer (some ⟨g, 1, none⟩)) (.int .u32 (k : Int))).run Try.prog w = .ok (.pointer (some ⟨g, 1 + k, none⟩)) w := by
  have h1 : 0 ≤ (k : Int) ∧ (k : Int) < 4096 := by omega
  have := Try.underlying44
  go_simp
/-- In a region whose order is drawn. -/
theorem q_four {w : World} {B g c n : Nat} {A : Option Addr} {l : List Nat} (h : Fin w B g A c l n) (hl : ∀ x ∈ l, x < 256) (hlc : l.length ≤ c) (a : Nat) (z : Int) (hz : z = (a : Int)) (ha : a + 4 ≤ l.length) (hlen : l.length ≤ 4096) (k : Nat) :
    Calls Try.prog 39 #[.pointer (some ⟨g, 0, none⟩), .int .i64 z] (w.drewN k) fun e w' => e = .returned (.int .u32 ((Lz.four l a : Nat) : Int)) ∧ ∃ m, w' = w.drewN m :=
  (four_any (h.drewN k) hl hlc a z hz ha hlen).mono fun _ _ ⟨he, hw⟩ => ⟨he, k, hw⟩
theorem q_hash (x : Nat) (w : World) (k : Nat) :
    Calls Try.prog 38 #[.int .u32 (x : Int)] (w.drewN k) fun e w' => e = .returned (.int .u32 ((Lz.hash x : Nat) : Int)) ∧ ∃ m, w' = w.drewN m :=
  (hash_any x (x : Int) rfl _).mono fun _ _ ⟨he, hw⟩ => ⟨he, k, hw⟩
theorem four_lt {l : List Nat} (hl : ∀ x ∈ l, x < 256) (a : Nat) : Lz.four l a < 4294967296 := by
  unfold Lz.four
  have a0 := getB_lt hl a; have a1 := getB_lt hl (a + 1); have a2 := getB_lt hl (a + 2); have a3 := getB_lt hl (a + 3)
  omega

set_option maxRecDepth 4000 in
set_option maxHeartbeats 4000000 in
theorem find_any {w : World} {B g c n : Nat} {A : Option Addr} {l : List Nat} (h : Fin w B g A c l n) (hl : ∀ x ∈ l, x < 256) (hlc : l.length ≤ c) (a : Nat) (hna : n ≤ a) (ha : a + 12 ≤ l.length) (hlen : l.length ≤ 4096) :
    Calls Try.prog 21 #[.pointer (some ⟨g, 0, none⟩), .int .i64 (a : Int)] w fun e w' => e = .returned (.int .i64 ((Lz.findV l a : Nat) - 1 : Int)) ∧ Fin w' B g A c l a ∧ Chg (fun b => b = g) w w' := by
  have H := Lib.hid h
  clear h
  go_enter Try.func21, Try.ntmps21
  go_wp2_with fail
  go_loopg [] (a - n) (fun d wr => ∃ m, a - m = d ∧ m ≤ a ∧ Fin wr B g A c l m ∧ Chg (fun b => b = g) w wr)
  case atStart => exact ⟨n, rfl, hna, H.out, Chg.refl _ _⟩
  case round =>
    obtain ⟨m, rfl, hm, hf, hc⟩ := hrel
    have F := Lib.hid hf
    have C := Lib.hid hc
    have cn := hf.next
    have fn := hf.frozen
    by_cases hlt : m < a
    · have q1 : decide ((m : Int) < (a : Int)) = true := by rw [decide_eq_true_eq]; omega
      have q1' : decide (m < a) = true := by rw [decide_eq_true_eq]; omega
      have FD : Fin wr.drew B g A c l m := hf.keep rfl ⟨rfl, rfl, rfl, Nat.le_refl _, fun _ _ => rfl⟩
      have CD : Chg (fun b => b = g) w wr.drew := hc.drew
      have N4 := Lib.hid (four_any FD hl hlc m (m : Int) rfl (by omega) hlen)
      have N5 := Lib.hid (hash_any (Lz.four l m) ((Lz.four l m : Nat) : Int) rfl wr.drew)
      obtain ⟨K, hK⟩ : ∃ K, Lz.hash (Lz.four l m) = K := ⟨_, rfl⟩
      have hK4 : K < 4096 := by rw [← hK]; exact Lz.hash_lt _
      have HK := Lib.hid hK
      rw [hK] at N5
      have hx := index4096 hK4 g
      have cs := FD.seen hK4
      have fs := FD.frozen (1 + K)
      have fn' := FD.frozen 4097
      have cnD := FD.next
      have cnS : ∀ v, (wr.drew.setCell ⟨g, 1 + K, none⟩ v).cell? ⟨g, 4097, none⟩ = some (.int .i64 (m : Int)) := fun v => (World.cell?_setCell_other wr.drew ⟨g, 1 + K, none⟩ ⟨g, 4097, none⟩ v (by intro h; injection h; omega)).trans cnD
      have HFw := Lib.hid hf
      have HCw := Lib.hid hc
      have hwr : IntKind.i64.wrap ((m : Int) + 1) = (m : Int) + 1 := by rw [IntKind.wrap_i64]; omega
      clear FD CD hf hc F C hK fn
      generalize Lz.seenV l m K = sv at *
      go_wp2_with fail
      go_region_held_law (fun w' => w'.cell? ⟨g, 4097, none⟩ = some (.int .i64 (m : Int))) (first | exact cnD | exact cnS _) (first
        | (go_at_call 39; ((with_reducible refine N4.out.mono ?_); rintro e w4 ⟨rfl, rfl⟩))
        | (go_at_call 38; ((with_reducible refine N5.out.mono ?_); rintro e w5 ⟨rfl, rfl⟩)))
      have hst := HFw.out.step HK.out
      have hcst : Chg (fun b => b = g) w _ := (HCw.out.setCell (p := ⟨g, 1 + K, none⟩) (.inl rfl) (.int .i64 ((m + 1 : Nat) : Int))).setCell (p := ⟨g, 4097, none⟩) (.inl rfl) (.int .i64 ((m + 1 : Nat) : Int))
      have cn2 : (wr.setCell ⟨g, 1 + K, none⟩ (.int .i64 ((m : Int) + 1))).cell? ⟨g, 4097, none⟩ = some (.int .i64 (m : Int)) := cnS _
      have fn2 : (wr.setCell ⟨g, 1 + K, none⟩ (.int .i64 ((m : Int) + 1))).frozen? ⟨g, 4097, none⟩ = false := by
        obtain ⟨cs', h0, _⟩ := HFw.out.ex
        exact (h0.set_ (1 + K) _).frozen 4097
      rw [show (((m + 1 : Nat)) : Int) = (m : Int) + 1 by omega] at hst hcst
      have Hst := Lib.hid hst
      have Hcst := Lib.hid hcst
      clear hst hcst cs fs fn' cnD cnS N4 N5
      generalize wr.setCell ⟨g, 1 + K, none⟩ (.int .i64 ((m : Int) + 1)) = w2 at *
      go_wp2_with fail
      go_roundg (a - (m + 1))
      case rel => exact ⟨m + 1, rfl, by omega, Hst.out.keep rfl ⟨rfl, rfl, rfl, Nat.le_refl _, fun _ _ => rfl⟩, Hcst.out.drew⟩
      case measure => omega
    · have hma : m = a := by omega
      subst hma
      have q1 : decide ((m : Int) < (m : Int)) = false := by simp
      have q1' : decide (m < m) = false := by simp
      obtain ⟨K, hK⟩ : ∃ K, Lz.hash (Lz.four l m) = K := ⟨_, rfl⟩
      have hK4 : K < 4096 := by rw [← hK]; exact Lz.hash_lt _
      have hx := index4096 hK4 g
      have cs := hf.seen hK4
      have hfv : Lz.findV l m = if Lz.seenV l m K = 0 then 0 else if Lz.four l (Lz.seenV l m K - 1) = Lz.four l m then Lz.seenV l m K else 0 := by unfold Lz.findV; rw [hK]
      have hsv := Lz.seenV_le l K m
      have Hfv := Lib.hid hfv
      have Q4 := Lib.hid (fun z (hz : z = (m : Int)) k => q_four hf hl hlc m z hz (by omega) hlen k)
      have Q5 := Lib.hid (fun k => q_hash (Lz.four l m) wr k)
      rw [hK] at Q5
      have HFr := Lib.hid hf
      have HCr := Lib.hid hc
      clear hfv hK hf hc F C fn
      generalize Lz.seenV l m K = sv at *
      by_cases hs0 : sv = 0
      · have hfv := Hfv.out
        rw [if_pos hs0] at hfv
        have HV := Lib.hid (show ((Lz.findV l m : Nat) : Int) - 1 = -1 by rw [hfv]; rfl)
        subst hs0
        rw [show ((0 : Nat) : Int) = 0 from rfl] at cs
        clear hfv
        go_wp2_with fail
        go_quiet ((first | (go_at_call 39; with_reducible exact Q4.out _ rfl _) | (go_at_call 38; with_reducible exact Q5.out _)))
        go_wp2_with fail
        go_ret
        exact ⟨by rw [HV.out]; rfl, HFr.out.drewN nq, HCr.out.drewN nq⟩
      · obtain ⟨p, hp⟩ : ∃ p, sv = p + 1 := ⟨sv - 1, by omega⟩
        have hpI : (sv : Int) - 1 = (p : Int) := by omega
        have q3 : decide (0 ≤ (p : Int)) = true := by rw [decide_eq_true_eq]; omega
        have hfv := Hfv.out
        rw [if_neg hs0, show sv - 1 = p by omega] at hfv
        have hpm : p < m := by omega
        have Hp := Lib.hid hp
        by_cases h4 : Lz.four l p = Lz.four l m
        · rw [if_pos h4] at hfv
          have HV := Lib.hid (show ((Lz.findV l m : Nat) : Int) - 1 = (p : Int) by rw [hfv, hp]; omega)
          have q4 : ((((Lz.four l p : Nat)) : Int) != ((Lz.four l m : Nat) : Int)) = false := by rw [h4]; simp
          have q4' : (Lz.four l p != Lz.four l m) = false := by rw [h4]; simp
          clear hfv h4 hs0 hp
          go_wp2_with fail
          go_quiet ((first | (go_at_call 39; with_reducible exact Q4.out _ rfl _) | (go_at_call 38; with_reducible exact Q5.out _)))
          go_wp2_with fail
          refine (four_any (HFr.out.drewN nq) hl hlc p _ rfl (by omega) hlen).mono ?_
          rintro e w1 ⟨rfl, rfl⟩
          go_wp2_with fail
          refine (four_any (HFr.out.drewN nq) hl hlc m _ rfl (by omega) hlen).mono ?_
          rintro e w2 ⟨rfl, rfl⟩
          go_wp2_with fail
          go_ret
          exact ⟨by rw [HV.out]; rfl, HFr.out.drewN nq, HCr.out.drewN nq⟩
        · rw [if_neg h4] at hfv
          have HV := Lib.hid (show ((Lz.findV l m : Nat) : Int) - 1 = -1 by rw [hfv]; rfl)
          have q4 : ((((Lz.four l p : Nat)) : Int) != ((Lz.four l m : Nat) : Int)) = true := by rw [bne_iff_ne]; omega
          have q4' : (Lz.four l p != Lz.four l m) = true := by rw [bne_iff_ne]; exact h4
          clear hfv h4 hs0 hp
          go_wp2_with fail
          go_quiet ((first | (go_at_call 39; with_reducible exact Q4.out _ rfl _) | (go_at_call 38; with_reducible exact Q5.out _)))
          go_wp2_with fail
          refine (four_any (HFr.out.drewN nq) hl hlc p _ rfl (by omega) hlen).mono ?_
          rintro e w1 ⟨rfl, rfl⟩
          go_wp2_with fail
          refine (four_any (HFr.out.drewN nq) hl hlc m _ rfl (by omega) hlen).mono ?_
          rintro e w2 ⟨rfl, rfl⟩
          go_wp2_with fail
          go_ret
          exact ⟨by rw [HV.out]; rfl, HFr.out.drewN nq, HCr.out.drewN nq⟩
end Go.Proofs.Ytnkgcibdibgmjaa
