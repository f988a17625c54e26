/- The program's platter: Rot. -/
import Derived.Test.YtdengokonaljpaaDfail
import Derived.Test.YtdengokonaljpaaRrot
namespace Go.Proofs.Ytdengokonaljpaa
open Go.RowKit Go.Maps

theorem drot_bad (g : Nat) (st : PSt) (F : Nat → Prop) (w : World) (h : Dev w F g st) (n bit : Int) (mask : Nat) (hbad : st.rotOk n bit = false) :
    Calls Try.prog 24 #[.pointer (some ⟨g, 0, none⟩), .int .i64 n, .int .i64 bit, .int .u32 (mask : Int)] w fun e w' => e = .returned (.bool false) ∧ w' = w := by
  obtain ⟨Bv, Cv, bm, Pm, D, E, h⟩ := h
  have hh := Lib.hid (has_any h n)
  clear h
  have bad : ∀ (x y z : Bool), (decide (0 ≤ n) && decide (n < (st.blocks.length : Int))) = x → decide (bit < 0) = y → decide (512 ≤ bit) = z → (x = false ∨ y = true ∨ z = true) →
      Calls Try.prog 24 #[.pointer (some ⟨g, 0, none⟩), .int .i64 n, .int .i64 bit, .int .u32 (mask : Int)] w fun e w' => e = .returned (.bool false) ∧ w' = w := by
    intro x y z h1 h2 h3 hor
    cases x <;> cases y <;> cases z <;> first
      | (simp at hor; done)
      | (go_enter Try.func24, Try.ntmps24
         go_wp2_with (go_at_call 40; refine hh.out.mono ?_; rintro e w' ⟨rfl, rfl⟩; rw [h1])
         go_ret
         exact ⟨rfl, rfl⟩)
  refine bad _ _ _ rfl rfl rfl ?_
  unfold PSt.rotOk at hbad
  simp at hbad
  cases hx : (decide (0 ≤ n) && decide (n < (st.blocks.length : Int))) with
  | false => exact .inl rfl
  | true =>
    simp at hx
    cases hy : decide (bit < 0) with
    | true => exact .inr (.inl rfl)
    | false =>
      simp at hy
      refine .inr (.inr ?_)
      simp
      exact hbad hx.1 hx.2 hy

theorem flat_set1 {α : Type} {f : α → List Value} {s : Nat} {l : List α} (hs : 0 < s) (h : ∀ x ∈ l, (f x).length = s) {i k : Nat} (hi : i < l.length) (hk : k < s) {y : α} {v : Value} (hy : f y = (f l[i]).set k v) : (l.flatMap f).set (i * s + k) v = (l.set i y).flatMap f := by
  have hly : (f y).length = s := by rw [hy, List.length_set, h _ (List.getElem_mem _)]
  rw [← flat_set hs h hly]
  refine List.ext_getElem? fun m => ?_
  rw [lay_at, hly, flat_length h]
  have hlen : (i + 1) * s ≤ l.length * s := Nat.mul_le_mul_right _ (by omega)
  rw [Nat.add_mul] at hlen
  by_cases hm : i * s + k = m
  · subst hm
    rw [List.getElem?_set_self (by rw [flat_length h]; omega), if_pos (by omega), hy, show i * s + k - i * s = k by omega, List.getElem?_set_self (by rw [h _ (List.getElem_mem _)]; exact hk)]
  · rw [List.getElem?_set_ne hm]
    by_cases hr : i * s ≤ m ∧ m < i * s + s ∧ m < l.length * s
    · rw [if_pos hr, hy, List.getElem?_set_ne (by omega), ← flat_at h hi (show m - i * s < s by omega), show i * s + (m - i * s) = m by omega]
    · rw [if_neg hr]

section
variable {w w' : World} {F G : Nat → Prop} {g : Nat} {st : PSt} {Bv Cv : Value} {bm : Nat} {Pm : Option Nat} {D E : DataW Unit}
theorem DevS.poke {gb L nb : Nat} (h : DevS w F g st (.slice (some ⟨gb, 0, none⟩) L nb) Cv bm Pm D E) {n q y : Nat} (hn : n < st.blocks.length) (hq : q < 64) (hy : y < 256) :
    DevS (w.setCell ⟨gb, n * 64 + q, none⟩ (.int .u8 (y : Int))) F g { st with blocks := st.blocks.set n (st.blocks[n].set q y) } (.slice (some ⟨gb, 0, none⟩) L nb) Cv bm Pm D E := by
  obtain ⟨A, c, hf, _⟩ := h.B.form
  have hL : L = st.blocks.length := by injection hf
  subst hL
  obtain ⟨cur, hcur⟩ := h.B.blk (k := gb) rfl
  have far : ∀ i, i ≠ gb → (w.setCell ⟨gb, n * 64 + q, none⟩ (.int .u8 (y : Int))).heap[i]? = w.heap[i]? := fun i hi => Below.heap_setCell _ _ _ _ hi
  have hb := h.wf.b st.blocks[n] (List.getElem_mem _)
  refine ⟨⟨fun x hx => ?_, fun p hp => ?_⟩, fun b hb => by simpa using h.lt b hb, h.fg, ?_, ?_, h.C.keep fun b hb => far b fun e => ?_, h.fm, ownsMap_keep h.M (far bm (ownsMap_ne h.M hcur)), h.last, fun b hb => ⟨(h.P b hb).1, (h.P b hb).2.1, ownsMap_keep (h.P b hb).2.2 (far b (ownsMap_ne (h.P b hb).2.2 hcur))⟩, h.due⟩
  · rcases List.mem_or_eq_of_mem_set hx with hx | rfl
    · exact h.wf.b x hx
    · refine ⟨by rw [List.length_set]; exact hb.1, fun z hz => ?_⟩
      rcases List.mem_or_eq_of_mem_set hz with hz | rfl
      · exact hb.2 z hz
      · exact hy
  · have := h.wf.c p hp
    exact ⟨by simpa using this.1, this.2⟩
  · exact Blk.keep h.blk (far g (Blk.ne_ h.blk hcur (by decide)))
  · have hr := h.B.stored (n * 64 + q) (.int .u8 (y : Int))
    have hs := flat_set1 (f := byts) (s := 64) (l := st.blocks) (i := n) (k := q) (y := st.blocks[n].set q y) (v := .int .u8 (y : Int)) (by omega) h.wf.b64 hn hq (set_byts _ _ _).symm
    unfold flat64 at hr ⊢
    rw [hs] at hr
    simpa using hr
  · subst e
    exact h.C.ne_ hcur (by decide) hb
end

theorem rotTo_done (l : List Nat) (bit mask i : Nat) (h : mask / 2 ^ i = 0) : ∀ d, rotTo l bit mask (i + d) = rotTo l bit mask i
  | 0 => rfl
  | d + 1 => by
    rw [← Nat.add_assoc, rotTo, if_neg, rotTo_done l bit mask i h d]
    have : mask / 2 ^ (i + d) = 0 := by rw [Nat.pow_add, ← Nat.div_div_eq_div_mul, h, Nat.zero_div]
    omega
theorem set_same {l : List Nat} {q : Nat} (hq : q < l.length) : l.set q (l.getD q 0) = l := by
  refine List.ext_getElem? fun k => ?_
  by_cases hk : q = k
  · subst hk; rw [List.getElem?_set_self hq]; simp [List.getD, List.getElem?_eq_getElem hq]
  · rw [List.getElem?_set_ne hk]
theorem not_nought {M : Nat} (h : ¬ M = 0) : ((M : Int) != 0) = true := by simp; exact h
theorem xor_zero8 {x : Nat} (hx : x < 256) : bits BinOp.xor IntKind.u8 (x : Int) 0 = (x : Int) := by
  have := u8_xor_nat x 0 hx (by decide)
  simpa using this

set_option maxHeartbeats 4000000 in
theorem drot_good (g : Nat) (st : PSt) (F : Nat → Prop) (w : World) (h : Dev w F g st) (n bit : Nat) (mask : Nat) (hm : mask < 2 ^ 32) (hn : n < st.blocks.length) (hb : bit < 512) :
    Calls Try.prog 24 #[.pointer (some ⟨g, 0, none⟩), .int .i64 n, .int .i64 bit, .int .u32 (mask : Int)] w fun e w' => e = .returned (.bool true) ∧ Dev w' F g { st with blocks := st.blocks.set n (rotted (st.blocks.getD n []) bit mask) } ∧ Chg F w w' := by
  obtain ⟨Bv, Cv, bm, Pm, D, E, h⟩ := h
  obtain ⟨A, nb, rfl, hnb, hA⟩ := h.B.form
  obtain ⟨gb, rfl, hFgb, _⟩ := h.B.at_ (by omega)
  have hh := Lib.hid (has_any h n)
  have hyes : (decide (0 ≤ (n : Int)) && decide ((n : Int) < (st.blocks.length : Int))) = true := by simp; omega
  have d3 : decide ((bit : Int) < 0) = false := by simp
  have d4 : decide (512 ≤ (bit : Int)) = false := by simp; omega
  have c0 : w.cell? ⟨g, 0, none⟩ = some (.slice (some ⟨gb, 0, none⟩) st.blocks.length nb) := h.blk.cell 0
  have hl : st.blocks.getD n [] = st.blocks[n] := by simp [List.getD, List.getElem?_eq_getElem hn]
  rw [hl]
  have hlw := h.wf.b st.blocks[n] (List.getElem_mem _)
  have hset : st.blocks.set n st.blocks[n] = st.blocks := List.set_getElem_self hn
  have HS := Lib.hid h
  have Hset := Lib.hid hset
  clear hl h hset
  generalize st.blocks[n] = l at *
  go_enter Try.func24, Try.ntmps24
  go_wp2_with (go_at_call 40; refine hh.out.mono ?_; rintro e w' ⟨rfl, rfl⟩; rw [hyes])
  go_loopw [2, 3] (fun b m wr => ∃ i : Nat, i ≤ rotN bit ∧ b = .int .i64 ((bit + i : Nat) : Int) ∧ m = .int .u32 ((mask / 2 ^ i : Nat) : Int) ∧ DevS wr F g { st with blocks := st.blocks.set n (rotTo l bit mask i) } (.slice (some ⟨gb, 0, none⟩) st.blocks.length nb) Cv bm Pm D E ∧ Chg F w' wr) (fun b _ _ => bit + rotN bit - (intOf b).toNat)
  case atStart =>
    refine ⟨0, by omega, rfl, by simp, ?_, Chg.refl _ _⟩
    show DevS w' F g { st with blocks := st.blocks.set n l } _ _ _ _ _ _
    rw [Hset.out]
    exact HS.out
  case round =>
    obtain ⟨i, hi, rfl, rfl, hS, hcr⟩ := hrel
    have Hlw := Lib.hid hlw
    have hrl : (rotTo l bit mask i).length = 64 := by rw [rotTo_length]; exact hlw.1
    by_cases hM0 : mask / 2 ^ i = 0
    · have hdone : rotted l bit mask = rotTo l bit mask i := by
        unfold rotted
        rw [show rotN bit = i + (rotN bit - i) by omega]
        exact rotTo_done l bit mask i hM0 _
      have Hd := Lib.hid hdone
      rw [hM0]
      clear hdone hM0
      go_wp2_with fail
      go_ret
      exact ⟨rfl, by rw [Hd.out]; exact ⟨_, _, _, _, _, _, hS⟩, hcr⟩
    by_cases h512 : 512 ≤ bit + i
    · have hdone : rotted l bit mask = rotTo l bit mask i := by
        unfold rotted rotN
        rw [show min 32 (512 - bit) = i by unfold rotN at hi; omega]
      have Hd := Lib.hid hdone
      have q0 : (((mask / 2 ^ i : Nat) : Int) != 0) = true := not_nought hM0
      have q1 : decide (((bit + i : Nat) : Int) < 512) = false := by simp; omega
      generalize mask / 2 ^ i = M at q0 ⊢
      generalize bit + i = Bt at q1 ⊢
      clear hdone hM0 h512
      go_wp2_with fail
      go_ret
      exact ⟨rfl, by rw [Hd.out]; exact ⟨_, _, _, _, _, _, hS⟩, hcr⟩
    · have hi32 : i < 32 := by
        rcases Nat.lt_or_ge i 32 with h' | h'
        · exact h'
        · exfalso
          apply hM0
          exact Nat.div_eq_of_lt (Nat.lt_of_lt_of_le hm (Nat.pow_le_pow_right (by decide) h'))
      have hnb' : n < (st.blocks.set n (rotTo l bit mask i)).length := by simpa using hn
      have hget : (st.blocks.set n (rotTo l bit mask i))[n] = rotTo l bit mask i := by simp
      have hlt : i < rotN bit := by unfold rotN; omega
      have hq : (bit + i) / 8 < 64 := by omega
      have hB : Row wr F 79 64 (.slice (some ⟨gb, 0, none⟩) st.blocks.length nb) st.blocks.length (flat64 (st.blocks.set n (rotTo l bit mask i))) := by
        have := hS.B
        simp only [List.length_set] at this
        exact this
      have hx : wr.cell? ⟨gb, n * 64 + (bit + i) / 8, none⟩ = some (.int .u8 (((rotTo l bit mask i).getD ((bit + i) / 8) 0 : Nat) : Int)) := by
        have hr := hB.range (f := byts) (l := st.blocks.set n (rotTo l bit mask i)) hS.wf.b64 (by simp) hnb'
        rw [hget] at hr
        exact hr _ _ (cell_of_byts (by rw [hrl]; exact hq))
      have hfz : wr.frozen? ⟨gb, n * 64 + (bit + i) / 8, none⟩ = false := hB.own.frozenAt _
      have hx8 : (rotTo l bit mask i).getD ((bit + i) / 8) 0 < 256 := getD_byte (rotTo_bytes l bit mask hlw.2 i) _
      have hpoke := fun (y : Nat) (hy : y < 256) => hS.drew.poke (n := n) (q := (bit + i) / 8) (y := y) hnb' hq hy
      simp only [hget, List.set_set] at hpoke
      have q0 : (((mask / 2 ^ i : Nat) : Int) != 0) = true := not_nought hM0
      have q1 : decide (((bit + i : Nat) : Int) < 512) = true := by simp; omega
      have q5 : (mask / 2 ^ i) / 2 = mask / 2 ^ (i + 1) := by rw [Nat.pow_succ, Nat.div_div_eq_div_mul]
      have hand : bits BinOp.and IntKind.u32 ((mask / 2 ^ i : Nat) : Int) 1 = ((mask / 2 ^ i % 2 : Nat) : Int) := by
        have := mask_bit hm i
        simpa using this
      have hstep : rotTo l bit mask (i + 1) = if mask / 2 ^ i % 2 = 1 then (rotTo l bit mask i).set ((bit + i) / 8) ((rotTo l bit mask i).getD ((bit + i) / 8) 0 ^^^ 2 ^ ((bit + i) % 8)) else rotTo l bit mask i := rfl
      have hsame : (rotTo l bit mask i).set ((bit + i) / 8) ((rotTo l bit mask i).getD ((bit + i) / 8) 0) = rotTo l bit mask i := set_same (by rw [hrl]; exact hq)
      have HP := Lib.hid hpoke
      have Hcr := Lib.hid hcr
      have Hst := Lib.hid hstep
      have Hsame := Lib.hid hsame
      have H5 := Lib.hid q5
      have Hx8 := Lib.hid hx8
      clear hpoke hcr hstep hS hsame q5 hnb' hget hm hb hM0 h512 hrl hlw d4 d3 hyes c0
      generalize (rotTo l bit mask i).getD ((bit + i) / 8) 0 = x at *
      generalize mask / 2 ^ i = M at *
      have hBt : ((bit : Int) + (i : Int)) = ((bit + i : Nat) : Int) := by simp
      generalize bit + i = Bt at *
      have hBn := Lib.hid (show Bt = bit + i by omega)
      clear hBt
      have hx0 := Lib.hid (xor_zero8 Hx8.out)
      have hx1 := Lib.hid (turn_bit Hx8.out (Bt % 8) (Nat.mod_lt _ (by decide)))
      rcases Nat.mod_two_eq_zero_or_one M with hodd | hodd
      · rw [hodd] at hand
        have Hodd := Lib.hid hodd
        clear hodd
        go_wp2_with fail
        go_region
        go_wp2_with fail
        go_roundw
        case rel =>
          have h1 := HP.out x Hx8.out
          rw [Hsame.out] at h1
          have h2 := Hst.out
          rw [if_neg (by have := Hodd.out; omega)] at h2
          refine ⟨i + 1, by omega, by rw [hBn.out]; go_num, by rw [← H5.out]; go_num, ?_, (Hcr.out.setCell (p := ⟨gb, n * 64 + Bt / 8, none⟩) (.inl hFgb) _).drew⟩
          rw [hx0.out, h2]
          exact h1
        case measure => have := hBn.out; simp [intOf]; omega
      · rw [hodd] at hand
        have Hodd := Lib.hid hodd
        clear hodd
        set_option maxRecDepth 4000 in
        go_wp2_with fail
        set_option maxRecDepth 4000 in
        go_region
        go_wp2_with fail
        go_roundw
        case rel =>
          have hy : x ^^^ 2 ^ (Bt % 8) < 256 := Nat.xor_lt_two_pow (n := 8) Hx8.out (Nat.pow_lt_pow_right (by decide) (Nat.mod_lt _ (by decide)))
          have h1 := HP.out _ hy
          have h2 := Hst.out
          rw [if_pos Hodd.out] at h2
          refine ⟨i + 1, by omega, by rw [hBn.out]; go_num, by rw [← H5.out]; go_num, ?_, (Hcr.out.setCell (p := ⟨gb, n * 64 + Bt / 8, none⟩) (.inl hFgb) _).drew⟩
          rw [hx1.out, h2]
          exact h1
        case measure => have := hBn.out; simp [intOf]; omega
end Go.Proofs.Ytdengokonaljpaa
