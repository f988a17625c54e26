/- What calls of package tally do: they give the document's checksum; what was there in memory stays as it is. -/
import Derived.Test.YthdmghocfngfgaaHalf
import Derived.Test.YthdmghocfngfgaaBy
namespace Go.Proofs.Ythdmghocfngfgaa
open Go.RowKit Crc

theorem half_val (y : Nat) : bits BinOp.xor IntKind.u32 ((y : Int) * 16 % 4294967296) ((h4 (y / 268435456) : Nat) : Int) = ((stN 4 y : Nat) : Int) := by
  rw [show (y : Int) * 16 % 4294967296 = ((y * 16 % 4294967296 : Nat) : Int) by omega, u32_xor_nat _ _ (by omega) (h4_lt _), half_step]

set_option maxHeartbeats 1000000 in
theorem more_any (s : Nat) (hs : s < 2 ^ 32) (A : Option Addr) (cap : Nat) (l : List Nat) (hl : ∀ x ∈ l, x < 256) (hlen : l.length ≤ 9223372036854775807) (w : World) (hsl : Sl w w.heap.size A (byts l)) :
    Calls Try.prog 40 #[.int .u32 (s : Int), .slice A l.length cap] w fun e w' => e = .returned (.int .u32 (more s l : Nat)) ∧ Below w.heap.size w w' := by
  have hsg : IntKind.u32.signed = false := rfl
  obtain ⟨t, ht⟩ : ∃ t : TypeId, t = 75 := ⟨_, rfl⟩
  have hagg : ∀ w, (isAgg t).run Try.prog w = .ok true w := by rw [ht]; intro w; kernel_rfl
  have hund : ∀ w, (underlying t).run Try.prog w = .ok (.array 16 53) w := by rw [ht]; exact under_tab
  have hix : ∀ (k : Nat), k < 16 → ∀ (g : Nat) (w : World), (Instr.indexAt t (.pointer (some ⟨g, 0, none⟩)) (.int .u32 (k : Int))).run Try.prog w = .ok (.pointer (some ⟨g, k, none⟩)) w := by rw [ht]; exact fun _ hk => index_tab _ hk
  have Hix := Lib.hid hix
  have hi16 : (Try.prog.info? t).map (·.size) = some 16 := by rw [ht]; kernel_rfl
  obtain ⟨N, hN⟩ : ∃ N : Nat, N = 16 := ⟨_, rfl⟩
  have hsz : ∀ w, (sizeOf t).run Try.prog w = .ok N w := by rw [ht, hN]; intro w; kernel_rfl
  obtain ⟨Z, hZ⟩ : ∃ Z : Array Value, Z = z16 := ⟨_, rfl⟩
  have hz0 : ∀ w, (zeroValue t).run Try.prog w = .ok (.agg Z) w := by rw [ht, hZ]; intro w; kernel_rfl
  obtain ⟨T, hT⟩ : ∃ T, T = tab 16 := ⟨_, rfl⟩
  have hTs : T.size = N := by rw [hT, tab_size, hN]
  have store : ∀ w1 : World, (storeCells ⟨w1.heap.size, 0, none⟩ T.toList 0).run Try.prog (w1.alloc (.cells Z t)) = .ok () (w1.alloc (.cells T t)) := fun w1 =>
    run_storeCells_new w1 t Z T (by rw [hi16, hT, tab_size]) (by rw [hT, hZ, tab_size]; simp [z16]) (by rw [Array.all_eq_true_iff_forall_mem, hT]; intro u hu; exact tab_one 16 u (by simpa using hu))
  have Hst := Lib.hid store
  have Hh := Lib.hid (half_any w)
  rw [← hT] at Hh
  have HT := Lib.hid hT
  have E1 : Op.alloc 75 = Op.alloc t := by rw [ht]
  have E2 : ∀ a b, Op.store 75 a b = Op.store t a b := by rw [ht]; exact fun _ _ => rfl
  have E3 : ∀ a b, Op.indexAddr 75 a b = Op.indexAddr t a b := by rw [ht]; exact fun _ _ => rfl
  clear hN hZ ht hix hi16 store hT
  go_enter Try.func40, Try.ntmps40
  simp only [E1, E2, E3]
  clear E1 E2 E3
  go_wp2_with fail
  refine Hh.out.mono ?_
  rintro e w1 ⟨rfl, hb1⟩
  have st1 := Hst.out w1
  go_wp2_with fail
  have hblk : Blk (w1.alloc (.cells T t)) w1.heap.size t T := Blk.new _ _ _
  have hsl1 := (hsl.below hb1).below ((Below.refl _ _).alloc hb1.size (.cells T t))
  have HB := Lib.hid (hb1.alloc hb1.size (.cells T t))
  generalize hW : w1.alloc (.cells T t) = W at *
  clear hW
  generalize w1.heap.size = g at *
  rw [HT.out] at hblk
  have Hb := Lib.hid hblk
  clear hblk hz0 st1
  go_loop [6, 14] (fun t i => ∃ k : Nat, k ≤ l.length ∧ i = .int .i64 k ∧ t = .int .u32 (crc (s ^^^ full) (l.take k) : Nat)) (fun _ i => l.length - (intOf i).toNat)
  case atStart => exact ⟨0, Nat.zero_le _, rfl, by rw [start_val s hs]; rfl⟩
  case round =>
    obtain ⟨k, hk, rfl, rfl⟩ := hrel
    by_cases hlt : k < l.length
    · obtain ⟨b, o, rfl, hB, hc⟩ := hsl1.at_ (i := k) (by simpa [byts] using hlt)
      have hcell : W.cell? ⟨b, o + k, none⟩ = some (.int .u8 (l[k] : Int)) := by
        have := hc k (by simpa [byts] using hlt)
        simpa [byts] using this
      clear hc hsl1
      have ht := crc_lt (xor_lt hs full_lt) (l.take k)
      have Hn := Lib.hid (take_next hlt (s ^^^ full))
      have hbyte := hl l[k] (List.getElem_mem _)
      generalize crc (s ^^^ full) (l.take k) = t0 at *
      have hy := xor_lt ht (byte_lt hbyte)
      have q1 := byte_val t0 _ ht hbyte
      have He : Hid (stB t0 l[k] = stN 4 (stN 4 (t0 ^^^ l[k] * 2 ^ 24))) := Lib.hid rfl
      generalize t0 ^^^ l[k] * 2 ^ 24 = y at *
      have q2 := half_val y
      have q3 := half_val (stN 4 y)
      have hy4 := stN_lt hy 4
      have i1 := Hix.out (y / 268435456) (by omega) g
      have i2 := Hix.out (stN 4 y / 268435456) (by omega) g
      have c1 : W.cell? ⟨g, y / 268435456, none⟩ = some (.int .u32 ((h4 (y / 268435456) : Nat) : Int)) := by rw [Hb.out.cell, tab_whole (by omega)]
      have c2 : W.cell? ⟨g, stN 4 y / 268435456, none⟩ = some (.int .u32 ((h4 (stN 4 y / 268435456) : Nat) : Int)) := by rw [Hb.out.cell, tab_whole (by omega)]
      have e1 : ((y / 268435456 : Nat) : Int) = (y : Int) / 268435456 := by omega
      have e2 : ((stN 4 y / 268435456 : Nat) : Int) = ((stN 4 y : Nat) : Int) / 268435456 := by omega
      rw [e1] at i1
      rw [e2] at i2
      clear e1 e2
      generalize stN 4 y = y2 at *
      generalize stN 4 y2 = y3 at *
      generalize h4 (y / 268435456) = v1 at *
      generalize h4 (y2 / 268435456) = v2 at *
      go_wp2_with fail
      go_round
      case rel => exact ⟨k + 1, by omega, by go_num, by rw [Hn.out, He.out]⟩
      case measure => simp [intOf]; omega
    · have hkl : k = l.length := by omega
      subst hkl
      go_wp2_with fail
      go_ret
      refine ⟨?_, HB.out⟩
      show Ending.returned (.int .u32 (bits BinOp.xor IntKind.u32 IntKind.u32.max ((crc (s ^^^ full) l : Nat) : Int))) = _
      rw [start_val _ (crc_lt (xor_lt hs full_lt) l)]
      rfl

/-- The same, told of a world before. -/
theorem more_rel (s : Nat) (hs : s < 2 ^ 32) (A : Option Addr) (cap : Nat) (l : List Nat) (hl : ∀ x ∈ l, x < 256) (hlen : l.length ≤ 9223372036854775807) {w w1 : World} (hb : Below w.heap.size w w1) (hsl : Sl w1 w1.heap.size A (byts l)) :
    Calls Try.prog 40 #[.int .u32 (s : Int), .slice A l.length cap] w1 fun e w' => e = .returned (.int .u32 (more s l : Nat)) ∧ Below w.heap.size w w' :=
  (more_any s hs A cap l hl hlen w1 hsl).mono fun _ _ ⟨e, h⟩ => ⟨e, hb.trans (h.mono hb.size)⟩

set_option maxHeartbeats 400000 in
theorem sum_any (A : Option Addr) (cap : Nat) (l : List Nat) (hl : ∀ x ∈ l, x < 256) (hlen : l.length ≤ 9223372036854775807) (w : World) (hsl : Sl w w.heap.size A (byts l)) :
    Calls Try.prog 27 #[.slice A l.length cap] w fun e w' => e = .returned (.int .u32 (sum l : Nat)) ∧ Below w.heap.size w w' := by
  have c := more_any 0 (by decide) A cap l hl hlen w hsl
  have C := Lib.hid c
  clear c
  go_enter Try.func27, Try.ntmps27
  go_wp2_with (go_at_call 40; refine Calls.mono C.out ?_; rintro e w' ⟨rfl, hb⟩)
  go_ret
  exact ⟨rfl, hb⟩
theorem sum_rel (A : Option Addr) (cap : Nat) (l : List Nat) (hl : ∀ x ∈ l, x < 256) (hlen : l.length ≤ 9223372036854775807) {w w1 : World} (hb : Below w.heap.size w w1) (hsl : Sl w1 w1.heap.size A (byts l)) :
    Calls Try.prog 27 #[.slice A l.length cap] w1 fun e w' => e = .returned (.int .u32 (sum l : Nat)) ∧ Below w.heap.size w w' :=
  (sum_any A cap l hl hlen w1 hsl).mono fun _ _ ⟨e, h⟩ => ⟨e, hb.trans (h.mono hb.size)⟩

set_option maxHeartbeats 400000 in
theorem rsum_any (A : Option Addr) (cap : Nat) (l : List Nat) (hl : ∀ x ∈ l, x < 256) (hlen : l.length ≤ 9223372036854775807) (w : World) (hsl : Sl w w.heap.size A (byts l)) :
    Calls Try.prog 29 #[.slice A l.length cap] w fun e w' => e = .returned (.int .u32 (sum l : Nat)) ∧ w = w' := by
  have c := rmore_any 0 (by decide) A cap l hl hlen w hsl
  have C := Lib.hid c
  clear c
  go_enter Try.func29, Try.ntmps29
  go_wp2_with (go_at_call 41; refine Calls.mono C.out ?_; rintro e w' ⟨rfl, rfl⟩)
  go_ret
  exact ⟨rfl, rfl⟩

end Go.Proofs.Ythdmghocfngfgaa
