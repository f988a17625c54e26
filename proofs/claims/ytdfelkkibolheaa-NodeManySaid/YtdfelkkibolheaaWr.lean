/- The program's writer: what its methods do. -/
import Derived.Test.YtdfelkkibolheaaLaw
import Derived.Test.YtdfelkkibolheaaBclone
import Derived.Test.YtdfelkkibolheaaVint
import Derived.Lib.Hide
import Derived.LoopTactic
import Derived.Recover
import Derived.Laws.BitsAllLaws
namespace Go.Proofs.Ytdfelkkibolheaa
open Go.RowKit Vint

/-- Block g is a writer that holds the bytes l; all that is its own lies in F. -/
structure Wr (w : World) (F : Nat → Prop) (g : Nat) (l : List Nat) : Prop where
  lt : ∀ b, F b → b < w.heap.size
  fg : F g
  ex : ∃ v, Blk w g 26 #[v] ∧ Row w F 5 1 v l.length (byts l)

section
variable {w w' : World} {F G : Nat → Prop} {g : Nat} {l : List Nat}
theorem Wr.mono (h : Wr w F g l) (hFG : ∀ i, F i → G i) (hG : ∀ b, G b → b < w.heap.size) : Wr w G g l := by
  obtain ⟨_, hfg, v, hblk, hrow⟩ := h
  exact ⟨hG, hFG g hfg, v, hblk, hrow.mono hFG⟩
theorem Wr.keep (h : Wr w F g l) (hs : w.heap.size ≤ w'.heap.size) (hk : ∀ b, F b → w'.heap[b]? = w.heap[b]?) : Wr w' F g l := by
  obtain ⟨hlt, hfg, v, hblk, hrow⟩ := h
  exact ⟨fun b hb => Nat.lt_of_lt_of_le (hlt b hb) hs, hfg, v, hblk.keep (hk g hfg), hrow.keep fun b hb => hk b (hrow.mem b hb)⟩
theorem Wr.below (h : Wr w F g l) (hb : Below w.heap.size w w') : Wr w' F g l := h.keep hb.size fun b hF => hb.block b (h.lt b hF)
end
theorem ext_lt {F : Nat → Prop} {w w' : World} (h : ∀ b, F b → b < w.heap.size) (hs : w.heap.size ≤ w'.heap.size) : ∀ b, Ext F w w' b → b < w'.heap.size := fun b hb => hb.elim (fun hb => Nat.lt_of_lt_of_le (h b hb) hs) (fun hb => hb.2)

set_option maxHeartbeats 1000000 in
theorem wnum_bad (g : Nat) (x : Int) (hx : x < 0 ∨ 268435455 < x) (w : World) :
    Calls Try.prog 20 #[.pointer (some ⟨g, 0, none⟩), .int .i64 x] w fun e w' => e = .panicked [{ v := .iface 39 (.int .i64 1), recovered := false }] ∧ w' = w := by
  have bad : ∀ (a b : Bool), decide (x < 0) = a → decide (268435455 < x) = b → (a = true ∨ b = true) →
      Calls Try.prog 20 #[.pointer (some ⟨g, 0, none⟩), .int .i64 x] w fun e w' => e = .panicked [{ v := .iface 39 (.int .i64 1), recovered := false }] ∧ w' = w := by
    intro a b h1 h2 h
    clear hx
    cases a <;> cases b <;> first
      | (simp at h; done)
      | (go_enter Try.func20, Try.ntmps20
         go_wp2_with fail
         exact ⟨rfl, rfl, rfl⟩)
  exact bad _ _ rfl rfl (by simpa using hx)

theorem or_byte7 (y : Nat) : bits BinOp.or IntKind.u8 ((y : Int) % 256) 128 = ((y % 128 + 128 : Nat) : Int) := by
  have h : ∀ z : Nat, z < 256 → z ||| 128 = z % 128 + 128 := by decide +kernel
  have e : ((y : Int) % 256) = ((y % 256 : Nat) : Int) := by omega
  rw [e, show (128 : Int) = ((128 : Nat) : Int) from rfl, u8_or_nat _ _ (by omega) (by decide), h _ (by omega)]
  omega
/-- An append to a writer's own bytes. -/
theorem wr_append {w0 w2 : World} {F : Nat → Prop} {g n n2 : Nat} {v v2 : Value} {xs ys : List Value} (hb : Blk w0 g 26 #[v]) (hr : Row w0 F 5 1 v n xs) (hown : w2.ownsRow 0 5 1 v2 n2 ys)
    (hgr : w0.grownBy w2 v.ownBlock) (hbl : v2.ownBlock = v.ownBlock ∨ v2.ownBlock = some w0.heap.size) :
    Blk w2 g 26 #[v] ∧ Chg F w0 w2 ∧ Row w2 (Ext F w0 w2) 5 1 v2 n2 ys := by
  refine ⟨hb.grown hgr (hr.ne_ hb (by decide)), (Chg.refl F w0).grown hgr fun k hk => .inl (hr.mem k hk), ⟨hown, fun k hk => ?_⟩⟩
  rcases hbl with h | h
  · exact .inl (hr.mem k (by rw [← h]; exact hk))
  · rw [h] at hk
    injection hk with hk
    refine .inr ⟨by omega, ?_⟩
    have : Row w2 (fun _ => True) 5 1 v2 n2 ys := ⟨hown, fun _ _ => trivial⟩
    exact this.lt (by rw [h, hk])
theorem ext_ext {F : Nat → Prop} {a b c d : World} (hab : a.heap.size ≤ b.heap.size) (hbc : b.heap.size ≤ c.heap.size) (hcd : c.heap.size ≤ d.heap.size) : ∀ i, Ext (Ext F a b) c d i → Ext F a d i := by
  intro i hi
  rcases hi with (h | h) | h
  · exact .inl h
  · exact .inr ⟨h.1, by omega⟩
  · exact .inr ⟨by omega, h.2⟩
/-- And the store of what it gave. -/
theorem wr_stored {w wr w0 w2 : World} {F : Nat → Prop} {g n2 : Nat} {v v2 : Value} {l2 : List Nat} (hlt : ∀ b, Ext F w wr b → b < wr.heap.size) (hfg : Ext F w wr g) (hC : Chg F w wr) (h0 : Chg (Ext F w wr) wr w0)
    (hb : Blk w2 g 26 #[v]) (hc : Chg (Ext F w wr) w0 w2) (hr : Row w2 (Ext (Ext F w wr) w0 w2) 5 1 v2 n2 (byts l2)) (hn : n2 = l2.length) :
    Wr (w2.setCell ⟨g, 0, none⟩ v2) (Ext F w (w2.setCell ⟨g, 0, none⟩ v2)) g l2 ∧ Chg F w (w2.setCell ⟨g, 0, none⟩ v2) := by
  subst hn
  have hz : (w2.setCell ⟨g, 0, none⟩ v2).heap.size = w2.heap.size := by simp
  have hzz := hC.size
  have hz0 := h0.size
  have hz2 := hc.size
  have he : ∀ i, Ext (Ext F w wr) w0 w2 i → Ext F w (w2.setCell ⟨g, 0, none⟩ v2) i := fun i hi => by
    rcases ext_ext hzz hz0 hz2 i hi with h | h
    · exact .inl h
    · exact .inr ⟨h.1, by rw [hz]; exact h.2⟩
  have hg : F g ∨ w.heap.size ≤ g := hfg.elim .inl fun h => .inr h.1
  refine ⟨⟨fun b hb => ?_, he g (.inl hfg), v2, ?_, (hr.set_far (fun hk => hr.ne_ hb (by decide) hk) _).mono he⟩, (hC.trans (h0.then_ hc)).setCell hg _⟩
  · rcases hb with hb | hb
    · have := hlt b (.inl hb); omega
    · exact hb.2
  · have := hb.set_ 0 v2
    simpa using this
set_option maxRecDepth 4000 in
set_option maxHeartbeats 4000000 in
theorem wnum_any (g x : Nat) (hx : x < 268435456) (F : Nat → Prop) (l : List Nat) (hl : l.length ≤ 1000000000) (w : World) (h : Wr w F g l) :
    Calls Try.prog 20 #[.pointer (some ⟨g, 0, none⟩), .int .i64 (x : Int)] w fun e w' => e = .returned (.tuple #[]) ∧ Wr w' (Ext F w w') g (l ++ vint x) ∧ Chg F w w' := by
  have h1 : decide ((x : Int) < 0) = false := by simp
  have h2 : decide (268435455 < (x : Int)) = false := by simp; omega
  obtain ⟨i0, hi0, hz0, hs0, hb0⟩ := byte_parts (P := Try.prog) (e := 5) (by kernel_rfl)
  go_enter Try.func20, Try.ntmps20
  go_wp2_with fail
  go_loopw [1] (fun v wr => ∃ (y : Nat) (p : List Nat), v = .int .i64 y ∧ y < 268435456 ∧ p ++ vint y = vint x ∧ Wr wr (Ext F w wr) g (l ++ p) ∧ Chg F w wr) (fun v _ => (intOf v).toNat)
  case atStart => exact ⟨x, [], rfl, hx, rfl, by rw [List.append_nil]; exact h.mono (fun _ h => .inl h) (ext_lt h.lt (Nat.le_refl _)), Chg.refl F w⟩
  case round =>
    obtain ⟨y, p, rfl, hy, hp, hW, hC⟩ := hrel
    obtain ⟨hlt, hfg, v, hblk, hrow⟩ := hW
    obtain ⟨A, c, rfl, hnc, hA⟩ := hrow.form
    have hlp : (l ++ p).length + 4 ≤ 1000000010 := by
      have h1 := congrArg List.length hp
      have h2 := vint_len hx
      have h3 := vint_pos y
      rw [List.length_append] at h1 ⊢
      omega
    have Hp := Lib.hid hp
    obtain ⟨m, hm⟩ : ∃ m, m = l ++ p := ⟨_, rfl⟩
    have Hm := Lib.hid hm
    rw [← hm] at hblk hrow hnc hlp
    clear hm hp h
    have c0 : wr.cell? ⟨g, 0, none⟩ = some (.slice A m.length c) := hblk.cell 0
    have f0 := hblk.frozen 0
    have Hrow := Lib.hid hrow
    have Hblk := Lib.hid hblk
    clear hrow hblk
    by_cases h128 : 128 ≤ y
    · have q1 : decide (128 ≤ (y : Int)) = true := by simp; omega
      have ho := or_byte7 y
      have hn : Hid (vint y = (y % 128 + 128) :: vint (y / 128)) := Lib.hid (vint_high h128)
      generalize y % 128 + 128 = d at *
      have hal : Chg (Ext F w wr) wr (wr.alloc (.cells #[.int .u8 (d : Int)] 5)) := (Chg.refl _ wr).alloc _
      have hsl : Sl (wr.alloc (.cells #[.int .u8 (d : Int)] 5)) (wr.heap.size + 1) (some ⟨wr.heap.size, 0, none⟩) (byts [d]) := .inr ⟨wr.heap.size, 0, rfl, by omega, fun i hi => by
        have : i = 0 := by simp [byts] at hi; omega
        subst this
        exact (cell_fresh rfl).trans rfl⟩
      have Hr1 := Lib.hid (Hrow.out.alloc (.cells #[.int .u8 (d : Int)] 5))
      have Hb1 := Lib.hid (Hblk.out.alloc (.cells #[.int .u8 (d : Int)] 5))
      have Hsl := Lib.hid hsl
      have Hal := Lib.hid hal
      clear hsl hal
      go_wp2_with (at_builtin; refine wpList_append_sl (base := 0) _ rfl (.tmp 21) (.tmp 25) _ rfl Try.underlying24 hi0 hz0 hs0 hb0 rfl (v := .slice A m.length c) rfl Hr1.out.own rfl (byts_length [d]).symm (by simp) Hsl.out (byts_one _) (by rw [byts_length]; exact Nat.le_refl _) (by rw [byts_length]; unfold maxLen; simp; omega) (by rw [byts_length]; simp; omega) (Nat.zero_le _) ?_; intro v2 w2 hown2 hgr hbl; obtain ⟨A2, c2, rfl⟩ := own_slice hown2; obtain ⟨hb2, hc2, hr2⟩ := wr_append Hb1.out Hr1.out hown2 hgr hbl; have d0 : w2.cell? ⟨g, 0, none⟩ = some (.slice A m.length c) := hb2.cell 0; have f2 := hb2.frozen 0; have Hb2 := Lib.hid hb2; have Hc2 := Lib.hid hc2; have Hr2 := Lib.hid hr2; clear hown2 hgr hbl hb2 hc2 hr2)
      obtain ⟨h3, hC3⟩ := wr_stored (l2 := m ++ [d]) hlt hfg hC Hal.out Hb2.out Hc2.out (by rw [← byts_join]; exact Hr2.out) (by rw [byts_length, List.length_append])
      refine ⟨⟨y / 128, p ++ [d], by go_num, by omega, ?_, ?_, hC3⟩, by simp [intOf]; omega⟩
      · rw [List.append_assoc, ← Hp.out, hn.out]; rfl
      · rw [← List.append_assoc, ← Hm.out]; exact h3
    · have q1 : decide (128 ≤ (y : Int)) = false := by simp; omega
      have hn : Hid (vint y = [y]) := Lib.hid (vint_low (by omega))
      have hcv : (y : Int) % 256 = (y : Int) := by omega
      have hal : Chg (Ext F w wr) wr (wr.alloc (.cells #[.int .u8 (y : Int)] 5)) := (Chg.refl _ wr).alloc _
      have hsl : Sl (wr.alloc (.cells #[.int .u8 (y : Int)] 5)) (wr.heap.size + 1) (some ⟨wr.heap.size, 0, none⟩) (byts [y]) := .inr ⟨wr.heap.size, 0, rfl, by omega, fun i hi => by
        have : i = 0 := by simp [byts] at hi; omega
        subst this
        exact (cell_fresh rfl).trans rfl⟩
      have Hr1 := Lib.hid (Hrow.out.alloc (.cells #[.int .u8 (y : Int)] 5))
      have Hb1 := Lib.hid (Hblk.out.alloc (.cells #[.int .u8 (y : Int)] 5))
      have Hsl := Lib.hid hsl
      have Hal := Lib.hid hal
      clear hsl hal
      go_wp2_with (at_builtin; refine wpList_append_sl (base := 0) _ rfl (.tmp 33) (.tmp 36) _ rfl Try.underlying24 hi0 hz0 hs0 hb0 rfl (v := .slice A m.length c) rfl Hr1.out.own rfl (byts_length [y]).symm (by simp) Hsl.out (byts_one _) (by rw [byts_length]; exact Nat.le_refl _) (by rw [byts_length]; unfold maxLen; simp; omega) (by rw [byts_length]; simp; omega) (Nat.zero_le _) ?_; intro v2 w2 hown2 hgr hbl; obtain ⟨A2, c2, rfl⟩ := own_slice hown2; obtain ⟨hb2, hc2, hr2⟩ := wr_append Hb1.out Hr1.out hown2 hgr hbl; have d0 : w2.cell? ⟨g, 0, none⟩ = some (.slice A m.length c) := hb2.cell 0; have f2 := hb2.frozen 0; have Hb2 := Lib.hid hb2; have Hc2 := Lib.hid hc2; have Hr2 := Lib.hid hr2; clear hown2 hgr hbl hb2 hc2 hr2)
      obtain ⟨h3, hC3⟩ := wr_stored (l2 := m ++ [y]) hlt hfg hC Hal.out Hb2.out Hc2.out (by rw [← byts_join]; exact Hr2.out) (by rw [byts_length, List.length_append])
      refine bodyPost_end (results_none rfl _ _ _) rfl ?_
      refine ⟨rfl, ?_, hC3⟩
      rw [← Hp.out, hn.out, ← List.append_assoc, ← Hm.out]
      exact h3

theorem Sl.chg {w w' : World} {B : Nat} {A : Option Addr} {xs : List Value} {F : Nat → Prop} (h : Sl w B A xs) (hB : B ≤ w.heap.size) (hc : Chg F w w') (hd : xs ≠ [] → ∀ i o, A = some ⟨i, o, none⟩ → ¬ F i) : Sl w' w'.heap.size A xs := by
  by_cases h0 : xs = []
  · exact .inl h0
  rcases h with h | ⟨b, o, e, hlt, hcell⟩
  · exact absurd h h0
  · refine .inr ⟨b, o, e, by have := hc.size; omega, fun i hi => ?_⟩
    rw [← hcell i hi]
    exact World.cell?_of_block (hc.block b (by omega) (hd h0 b o e))
set_option maxHeartbeats 1000000 in
theorem wbytes_any (g : Nat) (F : Nat → Prop) (l : List Nat) (hl : l.length ≤ 999000000) (w : World) (h : Wr w F g l) (A : Option Addr) (cap : Nat) (b : List Nat) {B : Nat} (hsl : Sl w B A (byts b)) (hB : B ≤ w.heap.size) (hd : byts b ≠ [] → ∀ i o, A = some ⟨i, o, none⟩ → ¬ F i) (hcap : b.length ≤ cap) (hA : A = none → cap = 0) (hb : b.length ≤ 10000) :
    Calls Try.prog 17 #[.pointer (some ⟨g, 0, none⟩), .slice A b.length cap] w fun e w' => e = .returned (.tuple #[]) ∧ Wr w' (Ext F w w') g (l ++ vint b.length ++ b) ∧ Chg F w w' := by
  have c1 := wnum_any g b.length (by omega) F l (by omega) w h
  have C1 := Lib.hid c1
  have h4 := vint_len (x := b.length) (by omega)
  obtain ⟨i0, hi0, hz0, hs0, hb0⟩ := byte_parts (P := Try.prog) (e := 5) (by kernel_rfl)
  clear c1
  go_enter Try.func17, Try.ntmps17
  go_wp2_with fail
  refine C1.out.mono ?_
  rintro e wr ⟨rfl, hW, hC⟩
  obtain ⟨m, hm⟩ : ∃ m, m = l ++ vint b.length := ⟨_, rfl⟩
  have Hm := Lib.hid hm
  have hlm : m.length ≤ 999000004 := by rw [hm, List.length_append]; omega
  rw [← hm] at hW
  clear hm
  obtain ⟨hlt, hfg, v, hblk, hrow⟩ := hW
  obtain ⟨A1, c, rfl, hnc, hA1⟩ := hrow.form
  have c0 : wr.cell? ⟨g, 0, none⟩ = some (.slice A1 m.length c) := hblk.cell 0
  have f0 := hblk.frozen 0
  have hsl1 : Sl wr wr.heap.size A (byts b) := hsl.chg hB hC hd
  have Hsl := Lib.hid hsl1
  have Hrow := Lib.hid hrow
  have Hblk := Lib.hid hblk
  have HC := Lib.hid hC
  clear hsl1 hrow hblk hC h
  go_wp2_with (at_builtin; refine wpList_append_sl (base := 0) _ rfl (.tmp 14) (.tmp 15) _ rfl Try.underlying24 hi0 hz0 hs0 hb0 rfl (v := .slice A1 m.length c) rfl Hrow.out.own rfl (byts_length b).symm hA Hsl.out (byts_one _) (by rw [byts_length]; exact hcap) (by rw [byts_length]; unfold maxLen; omega) (by rw [byts_length]; omega) (Nat.zero_le _) ?_; intro v2 w2 hown2 hgr hbl; obtain ⟨A2, c2, rfl⟩ := own_slice hown2; obtain ⟨hb2, hc2, hr2⟩ := wr_append Hblk.out Hrow.out hown2 hgr hbl; have d0 : w2.cell? ⟨g, 0, none⟩ = some (.slice A1 m.length c) := hb2.cell 0; have f2 := hb2.frozen 0; have Hb2 := Lib.hid hb2; have Hc2 := Lib.hid hc2; have Hr2 := Lib.hid hr2; clear hown2 hgr hbl hb2 hc2 hr2)
  obtain ⟨h3, hC3⟩ := wr_stored (l2 := m ++ b) hlt hfg HC.out (Chg.refl _ _) Hb2.out Hc2.out (by rw [← byts_join]; exact Hr2.out) (by rw [byts_length, List.length_append])
  refine bodyPost_end (results_none rfl _ _ _) rfl ?_
  refine ⟨rfl, ?_, hC3⟩
  rw [← Hm.out]
  exact h3

set_option maxHeartbeats 400000 in
theorem wout_any (g : Nat) (F : Nat → Prop) (l : List Nat) (hl : l.length ≤ 1000000000) (w : World) (h : Wr w F g l) :
    Calls Try.prog 21 #[.pointer (some ⟨g, 0, none⟩)] w (NewBytes w l) := by
  obtain ⟨_, _, v, hblk, hrow⟩ := h
  obtain ⟨A, c, rfl, hnc, hA⟩ := hrow.form
  have c0 : w.cell? ⟨g, 0, none⟩ = some (.slice A l.length c) := hblk.cell 0
  have c1 := Lib.hid (bclone_any A c l w hrow.sl (Nat.le_refl _) hnc hA (by omega))
  clear hrow hblk
  go_enter Try.func21, Try.ntmps21
  go_wp2_with fail
  refine c1.out.mono ?_
  rintro e w' ⟨A2, c2, rfl, hown, hb⟩
  have Ho := Lib.hid hown
  clear hown
  go_wp2_with fail
  go_ret
  exact ⟨A2, c2, rfl, Ho.out, hb⟩
end Go.Proofs.Ytdfelkkibolheaa
