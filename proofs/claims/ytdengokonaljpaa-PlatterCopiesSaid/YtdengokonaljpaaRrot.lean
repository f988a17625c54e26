/- The document's platter: what Rot does. -/
import Derived.Test.YtdengokonaljpaaRfail
namespace Go.Proofs.Ytdengokonaljpaa
open Go.RowKit

/-- A block with the bits of the mask turned, from a bit on: so many steps of it. -/
def rotTo (l : List Nat) (bit mask : Nat) : Nat → List Nat
  | 0 => l
  | i + 1 => if mask / 2 ^ i % 2 = 1 then (rotTo l bit mask i).set ((bit + i) / 8) ((rotTo l bit mask i).getD ((bit + i) / 8) 0 ^^^ 2 ^ ((bit + i) % 8)) else rotTo l bit mask i
theorem rotTo_length (l : List Nat) (bit mask : Nat) : ∀ i, (rotTo l bit mask i).length = l.length
  | 0 => rfl
  | i + 1 => by
    rw [rotTo]
    split
    · rw [List.length_set, rotTo_length l bit mask i]
    · exact rotTo_length l bit mask i
/-- So many bits of the mask lie within the block. -/
def rotN (bit : Nat) : Nat := min 32 (512 - bit)
def rotted (l : List Nat) (bit mask : Nat) : List Nat := rotTo l bit mask (rotN bit)
/-- Rot: whether it is done, and the state behind it. -/
def PSt.rotOk (st : PSt) (n bit : Int) : Bool := decide (0 ≤ n ∧ n < st.blocks.length ∧ 0 ≤ bit ∧ bit < 512)
def PSt.rot (st : PSt) (n bit : Int) (mask : Nat) : Bool × PSt :=
  if st.rotOk n bit = true then (true, { st with blocks := st.blocks.set n.toNat (rotted (st.blocks.getD n.toNat []) bit.toNat mask) }) else (false, st)

theorem rotTo_bytes (l : List Nat) (bit mask : Nat) (h : ∀ x ∈ l, x < 256) : ∀ i, ∀ x ∈ rotTo l bit mask i, x < 256
  | 0 => h
  | i + 1 => by
    have ih := rotTo_bytes l bit mask h i
    rw [rotTo]
    split
    · intro x hx
      rcases List.mem_or_eq_of_mem_set hx with hx | rfl
      · exact ih x hx
      · have h1 : (rotTo l bit mask i).getD ((bit + i) / 8) 0 < 2 ^ 8 := by
          rw [List.getD]
          cases he : (rotTo l bit mask i)[(bit + i) / 8]? with
          | none => simp
          | some y => exact ih y (List.mem_of_getElem? he)
        have h2 : 2 ^ ((bit + i) % 8) < 2 ^ 8 := Nat.pow_lt_pow_right (by decide) (Nat.mod_lt _ (by decide))
        exact Nat.xor_lt_two_pow h1 h2
    · exact ih

theorem getD_byte {l : List Nat} (hl : ∀ x ∈ l, x < 256) (i : Nat) : l.getD i 0 < 256 := by
  rw [List.getD_eq_getElem?_getD]
  cases e : l[i]? with
  | none => decide
  | some y => exact hl y (List.mem_of_getElem? e)
theorem cell_of_byts {l : List Nat} {i : Nat} (h : i < l.length) : (byts l)[i]? = some (.int .u8 ((l.getD i 0 : Nat) : Int)) := by
  unfold byts
  simp [List.getD, h]
theorem set_byts (l : List Nat) (i u : Nat) : (byts l).set i (.int .u8 (u : Int)) = byts (l.set i u) := by unfold byts; rw [List.map_set]

theorem mask_bit {mask : Nat} (hm : mask < 2 ^ 32) (i : Nat) : bits BinOp.and IntKind.u32 ((mask : Int) / 2 ^ i) 1 = ((mask / 2 ^ i % 2 : Nat) : Int) := by
  have h : ((mask : Int) / 2 ^ i) = ((mask / 2 ^ i : Nat) : Int) := by simp
  rw [h, show (1 : Int) = ((1 : Nat) : Int) from rfl, u32_and_nat _ _ (Nat.lt_of_le_of_lt (Nat.div_le_self _ _) hm) (by decide), Nat.and_one_is_mod]
theorem turn_bit {x : Nat} (hx : x < 256) (e : Nat) (he : e < 8) : bits BinOp.xor IntKind.u8 (x : Int) (2 ^ e % 256) = ((x ^^^ 2 ^ e : Nat) : Int) := by
  have h2 : 2 ^ e < 256 := Nat.pow_lt_pow_right (a := 2) (by decide) he
  have h : ((2 : Int) ^ e % 256) = ((2 ^ e : Nat) : Int) := by
    have : ((2 : Int) ^ e % 256) = ((2 ^ e % 256 : Nat) : Int) := by simp
    rw [this, Nat.mod_eq_of_lt h2]
  rw [h, u8_xor_nat _ _ hx h2]
theorem own_lower {w : World} {base base' : Nat} {e : TypeId} {size : Nat} {v : Value} {n : Nat} {xs : List Value} (h : w.ownsRow base e size v n xs) (hb : base' ≤ base) : w.ownsRow base' e size v n xs := by
  refine ⟨h.1, ?_⟩
  rcases h.2 with h0 | ⟨g, cap, cur, hv, hbg, rest⟩
  · exact .inl h0
  · exact .inr ⟨g, cap, cur, hv, Nat.le_trans hb hbg, rest⟩
theorem RefS.keep {w w' : World} {F : Nat → Prop} {g : Nat} {st : PSt} {gb nb nc : Nat} {A1 : Option Addr} {Pv : Value} {bs vs : List Value} (h : RefS w F g st gb nb A1 nc Pv bs vs) (hs : w.heap.size ≤ w'.heap.size) (hk : ∀ b, F b → w'.heap[b]? = w.heap[b]?) : RefS w' F g st gb nb A1 nc Pv bs vs := by
  have hh : ∀ {v : Value} {l : List Nat}, Held w F v l → Held w' F v l := fun h => h.keep fun b hb => hk b (h.2.2.mem b hb)
  exact ⟨fun b hb => Nat.lt_of_lt_of_le (h.lt b hb) hs, h.fg, h.blk.keep (hk g h.fg), h.B.keep fun b hb => hk b (h.B.mem b hb), ⟨h.hb.1, fun i v l hv hl => hh (h.hb.2 i v l hv hl)⟩, h.C.keep fun b hb => hk b (h.C.mem b hb), ⟨h.hv.1, fun i v l hv hl => hh (h.hv.2 i v l hv hl)⟩, h.P.keep fun b hb => hk b (h.P.mem b hb)⟩
theorem RefS.mono {w : World} {F G : Nat → Prop} {g : Nat} {st : PSt} {gb nb nc : Nat} {A1 : Option Addr} {Pv : Value} {bs vs : List Value} (h : RefS w F g st gb nb A1 nc Pv bs vs) (hFG : ∀ i, F i → G i) (hG : ∀ b, G b → b < w.heap.size) : RefS w G g st gb nb A1 nc Pv bs vs :=
  ⟨hG, hFG g h.fg, h.blk, h.B.mono hFG, h.hb.mono hFG, h.C.mono hFG, h.hv.mono hFG, h.P.mono hFG⟩

theorem rot_end {w wr : World} {F : Nat → Prop} {g : Nat} {st : PSt} {gb nb nc : Nat} {A1 : Option Addr} {Pv : Value} {bs vs : List Value} (h : RefS w F g st gb nb A1 nc Pv bs vs) (hbr : Below w.heap.size w wr) (hk : ∀ b, F b → wr.heap[b]? = w.heap[b]?)
    {n bit mask c3 : Nat} {A3 : Option Addr} {l : List Nat} (hrow : wr.ownsRow w.heap.size 5 1 (.slice A3 64 c3) 64 (byts (rotTo l bit mask (rotN bit)))) (h64 : l.length = 64) (hby : ∀ x ∈ l, x < 256) :
    RefR (wr.setCell ⟨gb, n, none⟩ (.slice A3 64 c3)) (Ext F w (wr.setCell ⟨gb, n, none⟩ (.slice A3 64 c3))) g { st with blocks := st.blocks.set n (rotted l bit mask) } ∧ Chg F w (wr.setCell ⟨gb, n, none⟩ (.slice A3 64 c3)) := by
  have hz : (wr.setCell ⟨gb, n, none⟩ (.slice A3 64 c3)).heap.size = wr.heap.size := by simp
  have hl : (rotted l bit mask).length = 64 := by unfold rotted; rw [rotTo_length, h64]
  have hH : Held wr (Ext F w (wr.setCell ⟨gb, n, none⟩ (.slice A3 64 c3))) (.slice A3 64 c3) (rotted l bit mask) := by
    refine ⟨hl, rotTo_bytes l bit mask hby _, ⟨?_, fun k hk => .inr ?_⟩⟩
    · rw [hl]; exact own_lower hrow (Nat.zero_le _)
    · have := hrow.lt k hk
      exact ⟨this.1, by rw [hz]; exact this.2⟩
  have h2 := (h.keep hbr.size hk).mono (G := Ext F w (wr.setCell ⟨gb, n, none⟩ (.slice A3 64 c3))) (fun _ h => .inl h) (fun b hb => by
    have := ext_lt h.lt (w' := wr.setCell ⟨gb, n, none⟩ (.slice A3 64 c3)) (by rw [hz]; exact hbr.size) b hb
    rwa [hz] at this)
  exact ⟨(h2.apply (k := n) hH).toR, (Chg.of_below F hbr).setCell (.inl h.gbF) _⟩

set_option maxHeartbeats 4000000 in
theorem rrot_bad (g : Nat) (st : PSt) (F : Nat → Prop) (w : World) (h : RefR w F g st) (n bit : Int) (mask : Nat) (hbad : st.rotOk n bit = false) :
    Calls Try.prog 32 #[.pointer (some ⟨g, 0, none⟩), .int .i64 n, .int .i64 bit, .int .u32 (mask : Int)] w fun e w' => e = .returned (.bool false) ∧ w' = w := by
  have bad : ∀ (x y z t : Bool), decide (n < 0) = x → decide ((st.blocks.length : Int) ≤ n) = y → decide (bit < 0) = z → decide (512 ≤ bit) = t → (x = true ∨ y = true ∨ z = true ∨ t = true) →
      Calls Try.prog 32 #[.pointer (some ⟨g, 0, none⟩), .int .i64 n, .int .i64 bit, .int .u32 (mask : Int)] w fun e w' => e = .returned (.bool false) ∧ w' = w := by
    intro x y z t h1 h2 h3 h4 hor
    obtain ⟨_, _, Bv, Cv, Pv, bs, vs, hblk, hBr, _, _, _, _⟩ := h
    obtain ⟨A, c, rfl, hnc, hA⟩ := hBr.form
    have c0 : w.cell? ⟨g, 0, none⟩ = some (.slice A st.blocks.length c) := hblk.cell 0
    clear hblk hBr
    cases x <;> cases y <;> cases z <;> cases t <;> first
      | (simp at hor; done)
      | (go_enter Try.func32, Try.ntmps32
         go_wp2_with fail
         go_ret
         exact ⟨rfl, rfl⟩)
  refine bad _ _ _ _ rfl rfl rfl rfl ?_
  unfold PSt.rotOk at hbad
  simp only [decide_eq_false_iff_not, decide_eq_true_eq] at *
  omega

set_option maxHeartbeats 4000000 in
theorem rrot_good (g : Nat) (st : PSt) (F : Nat → Prop) (w : World) (h : RefR w F g st) (n bit : Nat) (mask : Nat) (hm : mask < 2 ^ 32) (hn : n < st.blocks.length) (hb : bit < 512) :
    Calls Try.prog 32 #[.pointer (some ⟨g, 0, none⟩), .int .i64 n, .int .i64 bit, .int .u32 (mask : Int)] w fun e w' => e = .returned (.bool true) ∧ RefR w' (Ext F w w') g { st with blocks := st.blocks.set n (rotted (st.blocks.getD n []) bit mask) } ∧ Chg F w w' := by
  obtain ⟨gb, nb, A1, nc, Pv, bs0, vs, hS, hnb, hnc, hA1⟩ := RefS.of h (by omega)
  have hF := h.lt
  clear h hA1
  have HS := Lib.hid hS
  obtain ⟨i0, hi0, hz0, hs0, hb0⟩ := byte_parts (P := Try.prog) (e := 5) (by kernel_rfl)
  have d1 : decide ((n : Int) < 0) = false := by simp
  have d2 : decide ((st.blocks.length : Int) ≤ n) = false := by simp; omega
  have d3 : decide ((bit : Int) < 0) = false := by simp
  have d4 : decide (512 ≤ (bit : Int)) = false := by simp; omega
  have hbsl : bs0.length = st.blocks.length := hS.hb.1
  have hheld := hS.hb.2 n bs0[n] st.blocks[n] (List.getElem?_eq_getElem (by omega)) (List.getElem?_eq_getElem hn)
  have c0 : w.cell? ⟨g, 0, none⟩ = some (.slice (some ⟨gb, 0, none⟩) st.blocks.length nb) := hS.blk.cell 0
  have e0 := hS.B.own.cellAt n (by omega)
  rw [List.getElem?_eq_getElem (show n < bs0.length by omega)] at e0
  obtain ⟨A2, c2, hv2, hlc2, hA2, hsl2⟩ := hheld.form
  rw [hv2] at e0
  have hl : st.blocks.getD n [] = st.blocks[n] := by simp [List.getD, List.getElem?_eq_getElem hn]
  rw [hl]
  have h64 := hheld.1
  have hby := hheld.2.1
  clear hv2 hheld hl hS
  generalize st.blocks[n] = l at *
  go_enter Try.func32, Try.ntmps32
  go_wp2_with (
     at_builtin
     refine wpList_append_sl (w := _) (base := w.heap.size) (v := .slice none 0 0) (news := byts l) rfl (.const (.slice none 0 0)) (.tmp 36) _ rfl Try.underlying49 hi0 hz0 hs0 hb0 rfl rfl (World.ownsRow_nil _ _ _ _) rfl (h64.symm.trans (byts_length l).symm) hA2 hsl2 (byts_one l) (by rw [byts_length]; exact hlc2) (by rw [byts_length, h64]; unfold maxLen; omega) (by rw [byts_length, h64]; omega) (Nat.le_refl _) ?_
     intro v1 w1 hown1 hgr1 hbl1)
  obtain ⟨A3, c3, rfl⟩ := own_slice hown1
  rw [Nat.zero_add, byts_length, h64] at hown1
  rw [Nat.zero_add, byts_length, h64] at hbl1
  rw [byts_length, h64]
  go_loopw [10] (fun t wr => ∃ i : Nat, i ≤ rotN bit ∧ t = .int .i64 i ∧ wr.ownsRow w.heap.size 5 1 (.slice A3 64 c3) 64 (byts (rotTo l bit mask i)) ∧ Below w.heap.size w wr) (fun t _ => rotN bit - (intOf t).toNat)
  case atStart => exact ⟨0, by omega, rfl, hown1, ⟨hgr1.os, hgr1.tape, hgr1.output, hgr1.size, fun i hi => hgr1.block i hi (by simp [Value.ownBlock])⟩⟩
  case round =>
    obtain ⟨i, hi, rfl, hrow, hbr⟩ := hrel
    clear hown1
    by_cases hlt : i < rotN bit
    · have hi32 : i < 32 := by unfold rotN at hlt; omega
      have hi512 : bit + i < 512 := by unfold rotN at hlt; omega
      obtain ⟨b, rfl⟩ : ∃ b, A3 = some ⟨b, 0, none⟩ := by
        rcases hrow.2 with ⟨h', _⟩ | ⟨b, _, _, h', _⟩
        · injection h' with _ h' _; omega
        · injection h' with h' _ _; exact ⟨b, h'⟩
      have Hrow := Lib.hid hrow
      have Hlt := Lib.hid hlt
      have Hi := Lib.hid hi
      have Hm := Lib.hid hm
      clear hrow hlt hi hm hn hbl1 hgr1 hsl2 e0 c0
      have q0 : decide ((i : Int) < 32) = true := by simp; omega
      have q1 : decide ((bit : Int) + i < 512) = true := by simp; omega
      have hx := Hrow.out.cellAt ((bit + i) / 8) (by omega)
      have hfz := Hrow.out.frozenAt ((bit + i) / 8)
      rw [cell_of_byts (show (bit + i) / 8 < (rotTo l bit mask i).length by rw [rotTo_length]; omega)] at hx
      by_cases hbit : mask / 2 ^ i % 2 = 1
      · have q2 : (bits BinOp.and IntKind.u32 ((mask : Int) / 2 ^ i) 1 == 1) = true := by rw [mask_bit Hm.out, hbit]; rfl
        have Hbit := Lib.hid hbit
        clear hbit
        have hx8 : (rotTo l bit mask i).getD ((bit + i) / 8) 0 < 256 := getD_byte (rotTo_bytes l bit mask hby i) _
        generalize hxx : (rotTo l bit mask i).getD ((bit + i) / 8) 0 = x at *
        have Hxx := Lib.hid hxx
        clear hxx
        have Hturn := Lib.hid (turn_bit hx8 ((bit + i) % 8) (Nat.mod_lt _ (by decide)))
        set_option maxRecDepth 4000 in
        go_wp2_with fail
        go_roundw
        case rel =>
          refine ⟨i + 1, by have := Hlt.out; omega, by go_num, ?_, by refine hbr.setCell ?_ _; exact (Hrow.out.lt b rfl).1⟩
          rw [Hturn.out, rotTo, if_pos Hbit.out, Hxx.out, ← set_byts]
          exact (Hrow.out.stored _ _).1
        case measure => have := Hlt.out; simp [intOf]; omega
      · have q2 : (bits BinOp.and IntKind.u32 ((mask : Int) / 2 ^ i) 1 == 1) = false := by
          rw [mask_bit Hm.out, show mask / 2 ^ i % 2 = 0 by omega]; rfl
        have Hbit := Lib.hid hbit
        clear hbit
        set_option maxRecDepth 4000 in
        go_wp2_with fail
        go_roundw
        case rel => exact ⟨i + 1, by have := Hlt.out; omega, by go_num, by rw [rotTo, if_neg Hbit.out]; exact Hrow.out, hbr⟩
        case measure => have := Hlt.out; simp [intOf]; omega
    · have hend : i = rotN bit := by omega
      have Hend := Lib.hid hend
      have Hrow := Lib.hid hrow
      have hgF : F gb := HS.out.gbF
      have Hgb := Lib.hid (hF gb hgF)
      have hkeep : ∀ b, F b → wr.heap[b]? = w.heap[b]? := fun b hb => hbr.block b (hF b hb)
      have HK := Lib.hid hkeep
      have c0' : wr.cell? ⟨g, 0, none⟩ = some (.slice (some ⟨gb, 0, none⟩) st.blocks.length nb) := (World.cell?_of_block (hkeep g HS.out.fg)).trans c0
      have e0' : wr.cell? ⟨gb, n, none⟩ = some (.slice A2 l.length c2) := (World.cell?_of_block (hkeep gb hgF)).trans e0
      have f0' : wr.frozen? ⟨gb, n, none⟩ = false := by
        have := (HS.out.B.keep (w' := wr) (fun b hb => hkeep b (HS.out.B.mem b hb))).own.frozenAt n
        exact this
      have hi33 : i ≤ 32 := by unfold rotN at hi; omega
      have hor : (decide ((i : Int) < 32) = true ∧ decide ((bit : Int) + i < 512) = false) ∨ decide ((i : Int) < 32) = false := by
        unfold rotN at hend
        simp
        omega
      clear hend hrow hkeep hi hlt c0 e0 hn hm hbl1 hgr1 hsl2 hgF
      rcases hor with ⟨q0, q1⟩ | q0
      · set_option maxRecDepth 4000 in
        go_wp2_with fail
        go_ret
        exact ⟨rfl, rot_end HS.out hbr HK.out (Hend.out ▸ Hrow.out) h64 hby⟩
      · set_option maxRecDepth 4000 in
        go_wp2_with fail
        go_ret
        exact ⟨rfl, rot_end HS.out hbr HK.out (Hend.out ▸ Hrow.out) h64 hby⟩

end Go.Proofs.Ytdengokonaljpaa
