/- The program's putNumber and Encode. -/
import Derived.Test.YthdmghocfngfgaaCput
import Derived.Test.YthdmghocfngfgaaCmay
import Derived.Test.YthdmghocfngfgaaTal
import Derived.Deep.RegionHeldLaw
namespace Go.Proofs.Ythdmghocfngfgaa
open Go.RowKit Crc

set_option maxHeartbeats 1000000 in
theorem cputnum_any (g k n c : Nat) (p r : List Nat) (q0 q1 q2 q3 : Nat) (hk : k = p.length) (hn : 4 ≤ c) (x : Nat) (hx : x < 4294967296) {w : World} (hb : ByBlk w g (p ++ ([q0, q1, q2, q3] ++ r))) :
    Calls Try.prog 25 #[.slice (some ⟨g, k, none⟩) n c, .int .i64 (x : Int)] w fun e w' => e = .returned (.tuple #[]) ∧ ByBlk w' g (p ++ (le4 x ++ r)) ∧ Chg (· = g) w w' := by
  have hp := Lib.hid (fun c' => putbits4_any g k c' p r q0 q1 q2 q3 hk x hx hb)
  obtain ⟨i0, hi0, hz0, hs0, hb0⟩ := byte_parts (P := Try.prog) (e := 5) (by kernel_rfl)
  have hcut : ∀ w, (Instr.slice 28 (.slice (some ⟨g, k, none⟩) n c) none (some (.int .i64 4)) none).run Try.prog w = .ok (.slice (some ⟨g, k, none⟩) 4 c) w := fun w =>
    run_slice_to (P := Try.prog) Try.underlying28 hi0 _ n c 4 hn w
  have hw : IntKind.u64.wrap (x : Int) = (x : Int) := by
    have h : IntKind.u64.wrap (x : Int) = (x : Int) % 18446744073709551616 := by simp [IntKind.wrap, IntKind.bits, IntKind.signed]
    rw [h]; omega
  clear hb hk
  go_enter Try.func25, Try.ntmps25
  go_wp2_with (go_at_call 26; (with_reducible refine (hp.out _).mono ?_); rintro e w' ⟨rfl, h1, h2⟩)
  refine bodyPost_end (results_none rfl _ _ _) rfl ?_
  exact ⟨rfl, h1, h2⟩

/-- A crown's cells. -/
def crC (c : Cn.C) : Array Value := #[.int .i64 c.gen, .int .i64 c.bl, .int .i64 c.se, .float .f64 c.gain, .int .i64 c.at_, .int .i64 c.n, .int .i64 c.kg, .int .i64 c.ht]
/-- Encode half way: the crown's own block beside the row of bytes. -/
structure En (w W : World) (c : Cn.C) (xb G : Nat) (P : List Nat) (m : Nat) : Prop where
  box : Blk W xb 36 (crC c)
  row : ByBlk W G (P ++ List.replicate m 0)
  bel : Below w.heap.size w W
  ne : xb ≠ G
  hx : w.heap.size ≤ xb
  hg : w.heap.size ≤ G
section
variable {w W : World} {c : Cn.C} {xb G m : Nat} {P : List Nat}
theorem En.drew (h : En w W c xb G P m) : En w W.drew c xb G P m := ⟨h.box, h.row, h.bel.drew, h.ne, h.hx, h.hg⟩
theorem En.chg (h : En w W c xb G P m) {W' : World} {P' : List Nat} {m' : Nat} (hr : ByBlk W' G (P' ++ List.replicate m' 0)) (hc : Chg (· = G) W W') : En w W' c xb G P' m' :=
  ⟨h.box.keep (hc.block _ h.box.lt h.ne), hr, h.bel.trans (hc.below h.bel.size fun i hi => by rw [hi]; exact h.hg), h.ne, h.hx, h.hg⟩
theorem En.below (h : En w W c xb G P m) {W' : World} (hb : Below W.heap.size W W') : En w W' c xb G P m :=
  ⟨h.box.keep (hb.block _ h.box.lt), byblk_below h.row hb, h.bel.trans (hb.mono h.bel.size), h.ne, h.hx, h.hg⟩
theorem En.cells (h : En w W c xb G P m) : W.cell? ⟨xb, 0, none⟩ = some (.int .i64 c.gen) ∧ W.cell? ⟨xb, 1, none⟩ = some (.int .i64 c.bl) ∧ W.cell? ⟨xb, 2, none⟩ = some (.int .i64 c.se) ∧ W.cell? ⟨xb, 3, none⟩ = some (.float .f64 c.gain) ∧ W.cell? ⟨xb, 4, none⟩ = some (.int .i64 c.at_) ∧ W.cell? ⟨xb, 5, none⟩ = some (.int .i64 c.n) ∧ W.cell? ⟨xb, 6, none⟩ = some (.int .i64 c.kg) ∧ W.cell? ⟨xb, 7, none⟩ = some (.int .i64 c.ht) :=
  ⟨h.box.cell 0, h.box.cell 1, h.box.cell 2, h.box.cell 3, h.box.cell 4, h.box.cell 5, h.box.cell 6, h.box.cell 7⟩
theorem En.put4 (h : En w W c xb G P (m + 4)) {k n cp : Nat} (hk : k = P.length) (hn : 4 ≤ cp) {z : Int} (h0 : 0 ≤ z) (h1 : z < 4294967296) :
    Calls Try.prog 25 #[.slice (some ⟨G, k, none⟩) n cp, .int .i64 z] W fun e W' => e = .returned (.tuple #[]) ∧ En w W' c xb G (P ++ le4 z.toNat) m := by
  obtain ⟨x, rfl⟩ : ∃ x : Nat, z = x := ⟨z.toNat, by omega⟩
  have hr := h.row
  rw [show List.replicate (m + 4) 0 = [0, 0, 0, 0] ++ List.replicate m 0 by rw [Nat.add_comm, ← List.replicate_append_replicate]; rfl] at hr
  refine (cputnum_any G k n cp P (List.replicate m 0) 0 0 0 0 hk hn x (by omega) hr).mono ?_
  rintro e W' ⟨rfl, h2, h3⟩
  exact ⟨rfl, h.chg (by rw [Int.toNat_natCast, List.append_assoc]; exact h2) h3⟩
theorem En.put8 (h : En w W c xb G P (m + 8)) {k cp : Nat} (hk : k = P.length) {x : Nat} (h1 : x < 18446744073709551616) :
    Calls Try.prog 26 #[.slice (some ⟨G, k, none⟩) 8 cp, .int .u64 (x : Int)] W fun e W' => e = .returned (.tuple #[]) ∧ En w W' c xb G (P ++ Cn.le8 x) m := by
  have hr := h.row
  rw [show List.replicate (m + 8) 0 = [0, 0, 0, 0, 0, 0, 0, 0] ++ List.replicate m 0 by rw [Nat.add_comm, ← List.replicate_append_replicate]; rfl] at hr
  refine (putbits8_any G k cp P (List.replicate m 0) 0 0 0 0 0 0 0 0 hk x h1 hr).mono ?_
  rintro e W' ⟨rfl, h2, h3⟩
  exact ⟨rfl, h.chg (by rw [List.append_assoc]; exact h2) h3⟩
end
end Go.Proofs.Ythdmghocfngfgaa
