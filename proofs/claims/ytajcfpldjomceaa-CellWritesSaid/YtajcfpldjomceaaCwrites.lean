/- CellWrites returns true for all arguments; the memory that was there stays as it is. -/
import Derived.Test.YtajcfpldjomceaaWp
import Derived.Test.YtajcfpldjomceaaQuiet
import Derived.Deep.RegionLaw
import Derived.Deep.RegionHeldLaw
namespace Go.Proofs.Ytajcfpldjomceaa
open Go.RowKit Vint

/-- A part's bytes, numbers as they are; a number that may not be has none. -/
def we (p : Part) : List Nat := if p.d = 2 then vint p.b.length ++ p.b else if 0 ≤ p.n ∧ p.n < 268435456 then vint p.n.toNat else []
def wenc (l : List Part) : List Nat := l.flatMap we
theorem wenc_take {l : List Part} {j : Nat} (h : j < l.length) : wenc (l.take (j + 1)) = wenc (l.take j) ++ we l[j] := by
  unfold wenc
  rw [List.take_succ_eq_append_getElem h, List.flatMap_append]
  simp
theorem we_len {p : Part} (h : p.b.length ≤ 500) : (we p).length ≤ 504 := by
  unfold we
  by_cases h2 : p.d = 2
  · rw [if_pos h2, List.length_append]
    have := vint_len (x := p.b.length) (by omega)
    omega
  · rw [if_neg h2]
    by_cases h3 : 0 ≤ p.n ∧ p.n < 268435456
    · rw [if_pos h3]
      have := vint_len (x := p.n.toNat) (by omega)
      omega
    · rw [if_neg h3]; simp
theorem wenc_len : ∀ {l : List Part}, (∀ p ∈ l, p.b.length ≤ 500) → (wenc l).length ≤ 504 * l.length
  | [], _ => by simp [wenc]
  | p :: l, h => by
    have h1 := we_len (h p (List.mem_cons_self ..))
    have h2 := wenc_len (l := l) fun q hq => h q (List.mem_cons_of_mem _ hq)
    unfold wenc at h2 ⊢
    rw [List.flatMap_cons, List.length_append, List.length_cons]
    omega
theorem take_small {l : List Part} {j : Nat} (hj : j ≤ l.length) (h5 : ∀ i (hi : i < l.length), i < j → l[i].b.length ≤ 500) : (wenc (l.take j)).length ≤ 504 * j := by
  have := wenc_len (l := l.take j) fun q hq => by
    obtain ⟨i, hi, rfl⟩ := List.mem_iff_getElem.1 hq
    rw [List.length_take] at hi
    rw [List.getElem_take]
    exact h5 i (by omega) (by omega)
  rw [List.length_take] at this
  omega

set_option maxHeartbeats 400000 in
theorem w13_ok {w0 w : World} {F G : Nat → Prop} {g P : Nat} {v : Value} {l m : List Nat} (h : Wp w0 w F G g v l m) {cs : Array Value} (hP : Blk w P 28 cs) (x : Nat) (hx : x < 268435456) (hc : cs[1]? = some (.int .i64 (x : Int))) (hl : l.length ≤ 1000000000) :
    Calls Try.prog 13 #[.pointer (some ⟨g, 0, none⟩), .pointer (some ⟨P, 0, none⟩)] w fun e w' => e = .returned (.tuple #[]) ∧ Wp w0 w' (Ext F w w') G g v (l ++ vint x) m ∧ Chg F w w' := by
  have N := Lib.hid (wp_num h x hx hl)
  have k1 : w.cell? ⟨P, 1, none⟩ = some (.int .i64 (x : Int)) := (hP.cell 1).trans hc
  clear h hP hc
  go_enter Try.func13, Try.ntmps13
  go_wp2_with fail
  refine N.out.mono ?_
  rintro e w' ⟨rfl, h1, h2⟩
  go_wp2_with fail
  refine bodyPost_end (results_none rfl _ _ _) rfl ?_
  exact ⟨rfl, h1, h2⟩
set_option maxHeartbeats 400000 in
theorem w13_bad {w : World} {g P : Nat} {cs : Array Value} (hP : Blk w P 28 cs) (x : Int) (hx : x < 0 ∨ 268435455 < x) (hc : cs[1]? = some (.int .i64 x)) :
    Calls Try.prog 13 #[.pointer (some ⟨g, 0, none⟩), .pointer (some ⟨P, 0, none⟩)] w fun e w' => e = .panicked [{ v := errV 1, recovered := false }] ∧ w' = w := by
  have N := Lib.hid (wnum_bad g x hx w)
  have k1 : w.cell? ⟨P, 1, none⟩ = some (.int .i64 x) := (hP.cell 1).trans hc
  clear hP hc hx
  go_enter Try.func13, Try.ntmps13
  go_wp2_with fail
  refine N.out.mono ?_
  rintro e w' ⟨rfl, rfl⟩
  go_wp2_with fail
  exact ⟨rfl, rfl, rfl⟩
/-- The statement's quiet, round the writer: a number that may be. -/
def QuietOk (w0 w : World) (F G : Nat → Prop) (g : Nat) (v : Value) (l m : List Nat) (e : Ending) (w' : World) : Prop :=
  e = .returned (.bool true) ∧ ∃ F', Wp w0 w' F' G g v l m ∧ (∀ i, i < w.heap.size → ¬ F i → w'.heap[i]? = w.heap[i]?)
theorem quiet_num {w0 w : World} {F G : Nat → Prop} {g P : Nat} {v : Value} {l m : List Nat} (h : Wp w0 w F G g v l m) {cs : Array Value} (hP : Blk w P 28 cs) (x : Nat) (hx : x < 268435456) (hc : cs[1]? = some (.int .i64 (x : Int))) (hl : l.length ≤ 1000000000) :
    Calls Try.prog 12 #[.func (.func 13) #[] #[.pointer (some ⟨g, 0, none⟩), .pointer (some ⟨P, 0, none⟩)]] w (QuietOk w0 w F G g v (l ++ vint x) m) := by
  have hba : Below w.heap.size w (Wq w) := (Below.refl _ _).alloc (Nat.le_refl _) _
  have hsz : (Wq w).heap.size = w.heap.size + 1 := by simp [Wq]
  have hE : Blk (Wq w) w.heap.size 4 #[.bool false] := Blk.new w _ _
  have hflt := h.flt
  refine (quiet_ret w 13 #[.pointer (some ⟨g, 0, none⟩), .pointer (some ⟨P, 0, none⟩)] (fun w => by kernel_rfl) (fun w2 => Wp w0 w2 (Ext F (Wq w) w2) G g v (l ++ vint x) m ∧ Chg F (Wq w) w2) (w13_ok (h.step hba) (hP.keep (hba.block P hP.lt)) x hx hc hl) (fun w2 h2 => hE.keep (h2.2.block _ hE.lt fun hF => by have := hflt _ (.inl hF); omega))).mono ?_
  rintro e w' ⟨rfl, w2, ⟨h2, hc2⟩, rfl⟩
  have hz := h.bel.size
  have hne : ∀ i, Ext F (Wq w) w2 i ∨ G i → i ≠ w.heap.size := fun i hi => by
    rcases hi with (hi | hi) | hi
    · have := hflt i (.inl hi); omega
    · omega
    · have := hflt i (.inr hi); omega
  refine ⟨rfl, _, (h2.set (p := ⟨w.heap.size, 0, none⟩) hne hz _).set (p := ⟨w.heap.size, 0, none⟩) hne hz _, fun i hi hF => ?_⟩
  rw [Below.heap_setCell _ _ _ _ (by simpa using Nat.ne_of_lt hi), Below.heap_setCell _ _ _ _ (by simpa using Nat.ne_of_lt hi), hc2.block i (by omega) hF]
  exact hba.block i hi
def QuietBad (w0 : World) (F G : Nat → Prop) (g : Nat) (v : Value) (l m : List Nat) (e : Ending) (w' : World) : Prop :=
  e = .returned (.bool false) ∧ Wp w0 w' F G g v l m
theorem quiet_bad {w0 w : World} {F G : Nat → Prop} {g P : Nat} {v : Value} {l m : List Nat} (h : Wp w0 w F G g v l m) {cs : Array Value} (hP : Blk w P 28 cs) (x : Int) (hx : x < 0 ∨ 268435455 < x) (hc : cs[1]? = some (.int .i64 x)) :
    Calls Try.prog 12 #[.func (.func 13) #[] #[.pointer (some ⟨g, 0, none⟩), .pointer (some ⟨P, 0, none⟩)]] w (QuietBad w0 F G g v l m) := by
  have hba : Below w.heap.size w (Wq w) := (Below.refl _ _).alloc (Nat.le_refl _) _
  have hE : Blk (Wq w) w.heap.size 4 #[.bool false] := Blk.new w _ _
  have hflt := h.flt
  refine (quiet_pan w 1 13 #[.pointer (some ⟨g, 0, none⟩), .pointer (some ⟨P, 0, none⟩)] (fun w => by kernel_rfl) (fun w2 => w2 = Wq w) (w13_bad (hP.keep (hba.block P hP.lt)) x hx hc) (fun w2 h2 => by rw [h2]; exact hE)).mono ?_
  rintro e w' ⟨rfl, w2, rfl, rfl⟩
  exact ⟨rfl, (h.step hba).set (p := ⟨w.heap.size, 0, none⟩) (fun i hi => Nat.ne_of_lt (hflt i hi)) h.bel.size _⟩

/-- The writer's bytes, and what they read as. -/
def OutS (w : World) (m : List Nat) (e : Ending) (w' : World) : Prop := ∃ A c, e = .returned (.slice A m.length c) ∧ (convert 24 9 (.slice A m.length c)).run Try.prog w' = .ok (.string (bstr m)) w' ∧ Below w.heap.size w w'
theorem outS {w0 w : World} {F G : Nat → Prop} {g : Nat} {v : Value} {m m' : List Nat} (h : Wp w0 w F G g v m m') (hl : m.length ≤ 1000000000) : Calls Try.prog 15 #[.pointer (some ⟨g, 0, none⟩)] w.drew (OutS w m) := by
  refine (wout_any g F m hl w.drew (h.step (w' := w.drew) (Below.refl _ _).drew).wr).mono ?_
  rintro e w' ⟨A, c, rfl, hown, hb⟩
  exact ⟨A, c, rfl, conv_b (Sl.of_own hown), ⟨hb.os, hb.tape, hb.output, hb.size, hb.block⟩⟩

set_option maxRecDepth 10000 in
set_option maxHeartbeats 4000000 in
theorem writes_any (A : Option Addr) (cap : Nat) (l : List Part) (w : World) (hl : PartsAt w w.heap.size A l) (hok : ∀ x ∈ l, x.ok w w.heap.size) :
    Calls Try.prog 3 #[.slice A l.length cap] w fun e w' => e = .returned (.bool true) ∧ Below w.heap.size w w' := by
  have hmf : ∀ (fn : Fn) (first cap : Array Value) (w : World), (Instr.makeFunc fn first cap).run Try.prog w = .ok (.func fn first cap) w := fun _ _ _ _ => rfl
  have Ha := Lib.hid (cawake w)
  by_cases hbig : 100 < l.length
  · have qa : decide (100 < (l.length : Int)) = true := by simp; omega
    go_enter Try.func3, Try.ntmps3
    go_wp2_with fail
    refine Ha.out.mono ?_
    rintro e w1 ⟨rfl, b1⟩
    go_wp2_with fail
    go_ret
    exact ⟨rfl, b1⟩
  have qa : decide (100 < (l.length : Int)) = false := by simp; omega
  have h100 : l.length ≤ 100 := by omega
  obtain ⟨i0, hi0, hz0, hs0, hb0⟩ := byte_parts (P := Try.prog) (e := 5) (by kernel_rfl)
  go_enter Try.func3, Try.ntmps3
  go_wp2_with fail
  refine Ha.out.mono ?_
  rintro e w1 ⟨rfl, b1⟩
  have H2 := Lib.hid (wp_new w b1)
  clear b1 Ha
  go_wp2_with fail
  generalize hW : w1.alloc (.cells #[.slice none 0 0] 26) = W at *
  clear hW
  generalize w1.heap.size = g at *
  go_loopw [4, 5] (fun s v wr => ∃ (j : Nat) (F G : Nat → Prop), j ≤ l.length ∧ v = .int .i64 j ∧ (∀ i (hi : i < l.length), i < j → l[i].b.length ≤ 500) ∧ Wp w wr F G g s (wenc (l.take j)) (wenc (l.take j))) (fun _ v _ => l.length - (intOf v).toNat)
  case atStart => exact ⟨0, _, _, by omega, rfl, fun _ _ h => by omega, H2.out⟩
  case round =>
    obtain ⟨j, F, G, hj, rfl, h5, hw⟩ := hrel
    clear H2
    obtain ⟨Av, cv, rfl, hcv, hAv⟩ := hw.row.form
    have hE := take_small hj h5
    by_cases hlt : j < l.length
    · obtain ⟨b, o, rfl, hbB, x0, x1, x2⟩ := part_cells (hl.below hw.bel) hlt
      have hx := (hok l[j] (List.getElem_mem _)).below hw.bel
      have q1 : decide (j < l.length) = true := by simpa using hlt
      have Ht := Lib.hid (wenc_take hlt)
      have Hw := Lib.hid hw
      have hz := hw.bel.size
      have h5' : l[j].b.length ≤ 500 → ∀ i (hi : i < l.length), i < j + 1 → l[i].b.length ≤ 500 := fun hq i hi hij => by
        by_cases e : i = j
        · subst e; exact hq
        · exact h5 i hi (by omega)
      have H5 := Lib.hid h5'
      generalize hm : wenc (l.take j) = m at *
      have Hm := Lib.hid hm
      have Hx := Lib.hid hx
      generalize l[j] = x at *
      clear hw h5 h5' hx hm hok hl
      by_cases hb5 : 500 < x.b.length
      · have q3 : decide (500 < (x.b.length : Int)) = true := by simp; omega
        have HB := Lib.hid (Hw.out.bel.alloc hz (.cells #[.int .i64 x.d, .int .i64 x.n, .slice x.A x.b.length x.cap] 28))
        go_wp2_with fail
        go_ret
        exact ⟨rfl, HB.out⟩
      have q3 : decide (500 < (x.b.length : Int)) = false := by simp; omega
      have hba : Below wr.heap.size wr (wr.alloc (.cells #[.int .i64 x.d, .int .i64 x.n, .slice x.A x.b.length x.cap] 28)) := (Below.refl _ _).alloc (Nat.le_refl _) _
      have Hwa := Lib.hid (Hw.out.step hba)
      have HPa := Lib.hid (Blk.new wr 28 #[.int .i64 x.d, .int .i64 x.n, .slice x.A x.b.length x.cap])
      have Hxa := Lib.hid (Hx.out.below (hba.mono hz))
      have hPF := Lib.hid (fun i hi => Nat.ne_of_lt (Hw.out.flt i hi))
      have Hwf := Lib.hid Hw.out.flt
      clear hba Hw Hx
      by_cases hd : x.d = 2
      · have q2 : (x.d == 2) = true := by simpa using hd
        have Hwe : Hid (we x = vint x.b.length ++ x.b) := Lib.hid (by unfold we; rw [if_pos hd])
        have N := Lib.hid (refnum_any x.b.length (by omega) (wr.alloc (.cells #[.int .i64 x.d, .int .i64 x.n, .slice x.A x.b.length x.cap] 28)))
        have hvl := vint_len (x := x.b.length) (by omega)
        clear hd
        go_wp2_with fail
        refine N.out.mono ?_
        rintro e w2 ⟨A2, c2, rfl, hown2, b2⟩
        have hw2 := Hwa.out.step b2
        have hP2 := HPa.out.keep (b2.block _ HPa.out.lt)
        have hx2 := Hxa.out.below (b2.mono Hwa.out.bel.size)
        have k2 : w2.cell? ⟨wr.heap.size, 2, none⟩ = some (.slice x.A x.b.length x.cap) := hP2.cell 2
        have hs2 : Sl w2.drew w2.heap.size A2 (byts (vint x.b.length)) := by
          have := Sl.of_own hown2
          rcases this with h | ⟨b', o', e', h1, h2⟩
          · exact .inl h
          · exact .inr ⟨b', o', e', h1, h2⟩
        have Hw2 := Lib.hid (hw2.step (w' := w2.drew) (Below.refl _ _).drew)
        have HP2 := Lib.hid (hP2.keep (w' := w2.drew) rfl)
        have Hx2 := Lib.hid (hx2.below (w' := w2.drew) (Below.refl _ _).drew)
        have Hs2 := Lib.hid hs2
        have hA2 := own_none hown2
        have hc2 := own_len hown2
        have Hvb := Lib.hid (byts_length (vint x.b.length))
        have Hbb := Lib.hid (byts_length x.b)
        have hxn := Hx2.out.nil
        have hxl := Hx2.out.len
        clear hw2 hP2 hx2 hs2 hown2 b2 N Hwa HPa Hxa x0 x1 x2
        go_wp2_with fail
        go_region_law (first
          | (refine step_append_sl (base := 0) _ rfl (.tmp 40) (.tmp 41) _ rfl Try.underlying24 hi0 hz0 hs0 hb0 rfl (v := .slice Av m.length cv) rfl Hw2.out.row.own rfl Hvb.out.symm hA2 Hs2.out (byts_one _) (by rw [Hvb.out]; exact hc2) (by rw [Hvb.out]; unfold maxLen; omega) (by rw [Hvb.out]; omega) (Nat.zero_le _) ?_; intro v3 w3 hown3 hgr3 hbl3; rw [byts_join, byts_length] at hown3; obtain ⟨A3, c3, rfl⟩ := own_slice hown3; have Hw3 := Lib.hid (Hw2.out.appended hown3 (List.length_append).symm hgr3 hbl3); have HP3 := Lib.hid (HP2.out.grown hgr3 (Hw2.out.row.ne_ HP2.out (by decide))); have k3 : w3.cell? ⟨wr.heap.size, 2, none⟩ = some (.slice x.A x.b.length x.cap) := HP3.out.cell 2; have Hx3 := Lib.hid (Hx2.out.sl.below (Hw2.out.bel.size |> fun hz => (Below.refl _ _ |>.grown hgr3 hz (fun k hk => Hw2.out.new k (.inr (Hw2.out.row.mem k hk)))))); clear hown3 hgr3 hbl3)
          | (refine step_append_sl (base := 0) _ rfl (.tmp 42) (.tmp 44) _ rfl Try.underlying24 hi0 hz0 hs0 hb0 rfl (v := .slice A3 (m.length + (vint x.b.length).length) c3) rfl Hw3.out.row.own rfl Hbb.out.symm hxn Hx3.out (byts_one _) (by rw [Hbb.out]; exact hxl) (by rw [Hbb.out, List.length_append]; unfold maxLen; omega) (by rw [Hbb.out, List.length_append]; omega) (Nat.zero_le _) ?_; intro v4 w4 hown4 hgr4 hbl4; rw [byts_join, byts_length] at hown4; obtain ⟨A4, c4, rfl⟩ := own_slice hown4; have Hw4 := Lib.hid (Hw3.out.appended hown4 (List.length_append).symm hgr4 hbl4); have HP4 := Lib.hid (HP3.out.grown hgr4 (Hw3.out.row.ne_ HP3.out (by decide))); have k4 : w4.cell? ⟨wr.heap.size, 2, none⟩ = some (.slice x.A x.b.length x.cap) := HP4.out.cell 2; have Hx4 := Lib.hid (Hx3.out.below (Below.refl _ _ |>.grown hgr4 Hw3.out.bel.size (fun k hk => Hw3.out.new k (.inr (Hw3.out.row.mem k hk))))); clear hown4 hgr4 hbl4))
        all_goals
          have hw4 := Hw4.out
          rw [List.length_append] at hw4
          have N4 := Lib.hid (wp_bytes hw4 (by omega) Hx4.out hxl hxn (by omega))
          clear hw4 Hw4 Hw3 Hw2 HP2 HP3 Hx2 Hs2 Hx3 k2 k3
          go_wp2_with fail
          refine N4.out.mono ?_
          rintro e w5 ⟨rfl, hw5, hc5⟩
          have Hw5 := Lib.hid hw5
          clear hw5 hc5 N4 HP4 k4
          go_wp2_with fail
          go_roundw
          case rel => exact ⟨j + 1, _, _, by omega, by go_num, H5.out (by omega), by rw [Ht.out, Hwe.out, ← List.append_assoc]; exact Hw5.out⟩
          case measure => simp [intOf]; omega
      · have q2 : (x.d == 2) = false := by simpa using hd
        by_cases hin : 0 ≤ x.n ∧ x.n < 268435456
        · obtain ⟨k, hk⟩ : ∃ k : Nat, x.n = k := ⟨x.n.toNat, by omega⟩
          have hk28 : k < 268435456 := by omega
          have Hwe : Hid (we x = vint k) := Lib.hid (by unfold we; rw [if_neg hd, if_pos hin, hk, Int.toNat_natCast])
          have hvl := vint_len hk28
          have n1 := refnum_any k hk28 (wr.alloc (.cells #[.int .i64 x.d, .int .i64 x.n, .slice x.A x.b.length x.cap] 28))
          rw [← hk] at n1
          have N := Lib.hid n1
          have Hk := Lib.hid hk
          clear n1 hk hin hd
          go_wp2_with fail
          refine N.out.mono ?_
          rintro e w2 ⟨A2, c2, rfl, hown2, b2⟩
          have hw2 := Hwa.out.step b2
          have hP2 := HPa.out.keep (b2.block _ HPa.out.lt)
          have k1 : w2.cell? ⟨wr.heap.size, 1, none⟩ = some (.int .i64 x.n) := hP2.cell 1
          have Q := Lib.hid (quiet_num hw2 hP2 k hk28 (by rw [Hk.out]; rfl) (by omega))
          have hA2 := own_none hown2
          have hc2 := own_len hown2
          have Ho2 := Lib.hid hown2
          have Hvb := Lib.hid (byts_length (vint k))
          clear hown2 b2 N hw2 hP2 Hwa HPa Hxa x0 x1 x2
          go_wp2_with fail
          refine Q.out.mono ?_
          rintro e w3 ⟨rfl, F3, hw3, hk3⟩
          have hown3 := own_keep Ho2.out fun i hi hlt => hk3 i hlt fun hF => by
            have h1 := (Ho2.out.lt i hi).1
            have h2 := Hwf.out i (.inl hF)
            simp at h1
            omega
          have Hs3 := Lib.hid (Sl.of_own hown3)
          have Hw3 := Lib.hid hw3
          clear hown3 hw3 hk3 Q
          go_wp2_with (at_builtin; refine wpList_append_sl (base := 0) _ rfl (.tmp 59) (.tmp 60) _ rfl Try.underlying24 hi0 hz0 hs0 hb0 rfl (v := .slice Av m.length cv) rfl Hw3.out.row.own rfl Hvb.out.symm hA2 Hs3.out (byts_one _) (by rw [Hvb.out]; exact hc2) (by rw [Hvb.out]; unfold maxLen; omega) (by rw [Hvb.out]; omega) (Nat.zero_le _) ?_; intro v4 w4 hown4 hgr4 hbl4; rw [byts_join, byts_length] at hown4; obtain ⟨A4, c4, rfl⟩ := own_slice hown4; have Hw4 := Lib.hid (Hw3.out.appended hown4 (List.length_append).symm hgr4 hbl4); clear hown4 hgr4 hbl4)
          go_roundw
          case rel => exact ⟨j + 1, _, _, by omega, by go_num, H5.out (by omega), by rw [Ht.out, Hwe.out]; exact Hw4.out⟩
          case measure => simp [intOf]; omega
        · have Hwe : Hid (we x = []) := Lib.hid (by unfold we; rw [if_neg hd, if_neg hin])
          have N := Lib.hid (refnum_bad x.n (by omega) (wr.alloc (.cells #[.int .i64 x.d, .int .i64 x.n, .slice x.A x.b.length x.cap] 28)))
          have Q := Lib.hid (quiet_bad Hwa.out HPa.out x.n (by omega) rfl)
          clear hin hd Hwa HPa Hxa
          go_wp2_with fail
          refine N.out.mono ?_
          rintro e w2 ⟨rfl, rfl⟩
          clear x0 x1 x2
          go_wp2_with fail
          refine Q.out.mono ?_
          rintro e w3 ⟨rfl, hw3⟩
          have Hw3 := Lib.hid hw3
          clear hw3 Q N
          go_wp2_with (at_builtin; refine wpList_append_sl (base := 0) _ rfl (.tmp 59) (.tmp 60) _ rfl Try.underlying24 hi0 hz0 hs0 hb0 rfl (v := .slice Av m.length cv) rfl Hw3.out.row.own (A := none) (c := 0) (news := []) (B := 0) rfl rfl (fun _ => rfl) (.inl rfl) (by simp) (by simp) (by unfold maxLen; simp; omega) (by simp; omega) (Nat.zero_le _) ?_; intro v4 w4 hown4 hgr4 hbl4; rw [List.append_nil, List.length_nil, Nat.add_zero] at hown4; obtain ⟨A4, c4, rfl⟩ := own_slice hown4; have Hw4 := Lib.hid (Hw3.out.appended hown4 rfl hgr4 hbl4); clear hown4 hgr4 hbl4)
          go_roundw
          case rel => exact ⟨j + 1, _, _, by omega, by go_num, H5.out (by omega), by rw [Ht.out, Hwe.out, List.append_nil]; exact Hw4.out⟩
          case measure => simp [intOf]; omega
    · have hjl : j = l.length := by omega
      subst hjl
      have q1 : decide (l.length < l.length) = false := by simp
      simp only [List.take_length] at hw hE hcv ⊢
      generalize wenc l = m at *
      have hc0 : ∀ w', Below wr.heap.size wr w' → (convert 24 9 (.slice Av m.length cv)).run Try.prog w' = .ok (.string (bstr m)) w' := fun w' h => conv_b (cap := cv) ((hw.step h).row.sl)
      have Hc := Lib.hid hc0
      have hbc : Below wr.heap.size wr wr.drew := (Below.refl _ _).drew
      have HN := Lib.hid (outS hw (by omega))
      have HB := Lib.hid hw.bel
      clear hw h5 hj hlt hl hok hc0
      go_wp2_with fail
      go_region_held_law (fun w' => (convert 24 9 (.slice Av m.length cv)).run Try.prog w' = .ok (.string (bstr m)) w') (exact Hc.out _ hbc) (first
        | (go_at_call 15; ((with_reducible refine HN.out.mono ?_); rintro e w' ⟨A2, c2, rfl, hcv2, hbc⟩)))
      all_goals
        go_wp2_with fail
        go_ret
        exact ⟨rfl, HB.out.trans (hbc.mono HB.out.size)⟩
end Go.Proofs.Ytajcfpldjomceaa
