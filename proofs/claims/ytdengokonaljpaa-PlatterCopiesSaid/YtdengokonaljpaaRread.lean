/- The document's platter: what Read does. -/
import Derived.Test.YtdengokonaljpaaRwrite
namespace Go.Proofs.Ytdengokonaljpaa
open Go.RowKit

/-- The last of the first j cached writes that is one to block n. -/
def scan (c : List (Nat × List Nat)) (n : Nat) : Nat → Option (List Nat)
  | 0 => none
  | j + 1 => match c[j]? with
    | some p => if p.1 = n then some p.2 else scan c n j
    | none => scan c n j
def PSt.look (st : PSt) (n : Nat) : List Nat := (scan st.cache n st.cache.length).getD (st.blocks.getD n [])
/-- Read: the code, and the bytes. -/
def PSt.read (st : PSt) (n : Int) : Int × List Nat :=
  if (st.count 1).hit 1 = true then (6, [])
  else if n < 0 ∨ (st.blocks.length : Int) ≤ n then (1, [])
  else (0, st.look n.toNat)
theorem scan_hit {c : List (Nat × List Nat)} {n j : Nat} (hj : j < c.length) (h : c[j].1 = n) : scan c n (j + 1) = some c[j].2 := by
  simp [scan, List.getElem?_eq_getElem hj, h]
theorem scan_miss {c : List (Nat × List Nat)} {n j : Nat} (hj : j < c.length) (h : c[j].1 ≠ n) : scan c n (j + 1) = scan c n j := by
  simp [scan, List.getElem?_eq_getElem hj, h]

/-- A copy of bytes, new since w. -/
def Fresh (w w' : World) (v : Value) (l : List Nat) : Prop := Row w' (fun b => w.heap.size ≤ b) 5 1 v l.length (byts l)

theorem Held.form {w : World} {F : Nat → Prop} {v : Value} {l : List Nat} (h : Held w F v l) : ∃ A c, v = .slice A l.length c ∧ l.length ≤ c ∧ (A = none → c = 0) ∧ Sl w w.heap.size A (byts l) := by
  obtain ⟨A, c, rfl, h1, h2⟩ := h.2.2.form
  have hs := h.2.2
  have hsl : w.ownsRow 0 5 1 (.slice A (byts l).length c) (byts l).length (byts l) := by rw [byts_length]; exact hs.own
  exact ⟨A, c, rfl, h1, h2, Sl.of_own hsl⟩

theorem RefR.keep {w w' : World} {F : Nat → Prop} {g : Nat} {st : PSt} (h : RefR w F g st) (hs : w.heap.size ≤ w'.heap.size) (hk : ∀ b, F b → w'.heap[b]? = w.heap[b]?) : RefR w' F g st := by
  obtain ⟨hlt, hfg, Bv, Cv, Pv, bs, vs, hblk, hB, hbs, hC, hvs, hP⟩ := h
  have hh : ∀ {v : Value} {l : List Nat}, Held w F v l → Held w' F v l := fun h => h.keep fun b hb => hk b (h.2.2.mem b hb)
  exact ⟨fun b hb => Nat.lt_of_lt_of_le (hlt b hb) hs, hfg, Bv, Cv, Pv, bs, vs, hblk.keep (hk g hfg), hB.keep fun b hb => hk b (hB.mem b hb), ⟨hbs.1, fun i v l hv hl => hh (hbs.2 i v l hv hl)⟩, hC.keep fun b hb => hk b (hC.mem b hb), ⟨hvs.1, fun i v l hv hl => hh (hvs.2 i v l hv hl)⟩, hP.keep fun b hb => hk b (hP.mem b hb)⟩

theorem read_end {w w1 w3 : World} {F : Nat → Prop} {g : Nat} {st : PSt} {row : Option Nat} (hr : RefR w1 F g st) (hc : Chg F w w1) (hF : ∀ b, F b → b < w.heap.size) (hg : w1.grownBy w3 row) (hrow : row = none) : RefR w3 (Ext F w w3) g st :=
  (hr.keep hg.size fun b hb => hg.block b (hr.lt b hb) (by rw [hrow]; simp)).mono (fun _ h => .inl h) (ext_lt hF (Nat.le_trans hc.size hg.size))
theorem copy_fresh {w w1 w3 : World} {v u : Value} {n : Nat} {l : List Nat} (ho : w3.ownsRow 0 5 1 v (n + (byts l).length) (byts l)) (hb : v.ownBlock = u.ownBlock ∨ v.ownBlock = some w1.heap.size) (hz : w1.heap.size = w.heap.size) (hn : n = 0 := by rfl) (hu : u.ownBlock = none := by rfl) : Fresh w w3 v l := by
  subst hn
  rw [Nat.zero_add, byts_length] at ho
  refine ⟨ho, fun k hk => ?_⟩
  rcases hb with e | e
  · rw [e, hu] at hk; cases hk
  · rw [e] at hk; injection hk with hk; omega

def ReadPost (st : PSt) (g : Nat) (F : Nat → Prop) (w : World) (r : Int × List Nat) (e : Ending) (w' : World) : Prop :=
  ∃ v, e = .returned (.tuple #[v, .int .i64 r.1]) ∧ RefR w' (Ext F w w') g (st.count 1) ∧ Chg F w w' ∧ (r.1 ≠ 0 → v = .slice none 0 0) ∧ Fresh w w' v r.2

set_option maxHeartbeats 4000000 in
theorem rread_any (g : Nat) (st : PSt) (F : Nat → Prop) (w : World) (h : RefR w F g st) (hs : st.ops 1 < 1000000 ∧ st.since 1 < 1000000) (hpl : st.plan.length ≤ 1000) (hcl : st.cache.length < 1000000) (n : Int) :
    Calls Try.prog 28 #[.pointer (some ⟨g, 0, none⟩), .int .i64 n] w (ReadPost st g F w (st.read n)) := by
  have hf := rfault1 g st F w h hs hpl
  have Hf := Lib.hid hf
  have hF := h.lt
  clear hf h
  by_cases hhit : (st.count 1).hit 1 = true
  · have hw : st.read n = (6, []) := by unfold PSt.read; rw [if_pos hhit]
    rw [hw]
    go_enter Try.func28, Try.ntmps28
    go_wp2_with (go_at_call 44; refine Calls.mono Hf.out ?_; rintro e w1 ⟨rfl, hr1, hc1, hz1⟩; rw [hhit])
    go_ret2
    exact ⟨_, rfl, hr1.mono (fun _ h => .inl h) (ext_lt hF hc1.size), hc1, fun _ => rfl, Row.nil _ _ _ _⟩
  have hhit' : (st.count 1).hit 1 = false := by simpa using hhit
  by_cases hbad : n < 0 ∨ (st.blocks.length : Int) ≤ n
  · have hw : st.read n = (1, []) := by unfold PSt.read; rw [if_neg hhit, if_pos hbad]
    rw [hw]
    have bad : ∀ (x y : Bool), decide (n < 0) = x → decide ((st.blocks.length : Int) ≤ n) = y → (x = true ∨ y = true) →
        Calls Try.prog 28 #[.pointer (some ⟨g, 0, none⟩), .int .i64 n] w fun e w' =>
          e = .returned (.tuple #[.slice none 0 0, .int .i64 1]) ∧ RefR w' (Ext F w w') g (st.count 1) ∧ Chg F w w' := by
      intro x y h1 h2 h
      cases x <;> cases y <;> first
        | (simp at h; done)
        | (go_enter Try.func28, Try.ntmps28
           go_wp2_with fail
           refine Calls.mono Hf.out ?_
           rintro e w1 ⟨rfl, hr1, hc1, hz1⟩
           rw [hhit']
           have Hr := Lib.hid hr1
           obtain ⟨_, _, Bv, Cv, Pv, bs, vs, hblk, hBr, _, _, _, _⟩ := hr1
           obtain ⟨A, c, rfl, hnc, hA⟩ := hBr.form
           have c0 : w1.cell? ⟨g, 0, none⟩ = some (.slice A st.blocks.length c) := hblk.cell 0
           clear hblk hBr
           go_wp2_with fail
           go_ret2
           exact ⟨rfl, Hr.out.mono (fun _ h => .inl h) (ext_lt hF hc1.size), hc1⟩)
    refine (bad _ _ rfl rfl ?_).mono fun e w' ⟨he, hr, hc⟩ => ⟨_, he, hr, hc, fun _ => rfl, Row.nil _ _ _ _⟩
    rcases hbad with h | h
    · exact .inl (by simpa using h)
    · exact .inr (by simpa using h)
  have hw : st.read n = (0, st.look n.toNat) := by unfold PSt.read; rw [if_neg hhit, if_neg hbad]
  rw [hw]
  clear hw
  obtain ⟨k, rfl⟩ : ∃ k : Nat, n = k := ⟨n.toNat, by omega⟩
  have hkl : k < st.blocks.length := by omega
  rw [Int.toNat_natCast]
  obtain ⟨i0, hi0, hz0, hs0, hb0⟩ := byte_parts (P := Try.prog) (e := 5) (by kernel_rfl)
  have d1 : decide ((st.blocks.length : Int) ≤ k) = false := by simp; omega
  go_enter Try.func28, Try.ntmps28
  go_wp2_with fail
  refine Calls.mono Hf.out ?_
  rintro e w1 ⟨rfl, hr1, hc1, hz1⟩
  rw [hhit']
  have Hr := Lib.hid hr1
  obtain ⟨hF1, hg1, Bv, Cv, Pv, bs, vs, hblk, hBr, hbs, hC, hvs, hP⟩ := hr1
  obtain ⟨A, c, rfl, hnc, hA⟩ := hBr.form
  have hC : Row w1 F 91 2 Cv st.cache.length (cacheCells st.cache vs) := hC
  obtain ⟨A1, c1, rfl, hnc1, hA1⟩ := hC.form
  have c0 : w1.cell? ⟨g, 0, none⟩ = some (.slice A st.blocks.length c) := hblk.cell 0
  have c2 : w1.cell? ⟨g, 1, none⟩ = some (.slice A1 st.cache.length c1) := hblk.cell 1
  have hvl : vs.length = st.cache.length := by have := hvs.1; simpa [PSt.count] using this
  have hbl : bs.length = st.blocks.length := hbs.1
  clear hP hblk
  go_wp2_with fail
  go_loop [6] (fun i => ∃ j : Nat, j ≤ st.cache.length ∧ i = .int .i64 ((j : Int) - 1) ∧ scan st.cache k st.cache.length = scan st.cache k j) (fun i => (intOf i + 1).toNat)
  case atStart => exact ⟨st.cache.length, Nat.le_refl _, rfl, rfl⟩
  case round =>
    obtain ⟨j, hj, rfl, hsc⟩ := hrel
    cases j with
    | zero =>
      rw [show (((0 : Nat) : Int) - 1) = -1 by rfl]
      obtain ⟨b, rfl, hFb, hbz, hcell, _⟩ := hBr.at_ (by have : (st.count 1).blocks.length = st.blocks.length := rfl; omega)
      have e0 := hcell k (by have : (st.count 1).blocks.length = st.blocks.length := rfl; omega)
      rw [List.getElem?_eq_getElem (show k < bs.length by omega)] at e0
      have hheld := hbs.2 k bs[k] st.blocks[k] (List.getElem?_eq_getElem (by omega)) (List.getElem?_eq_getElem hkl)
      obtain ⟨A2, c2', hv2, hlc2, hA2, hsl2⟩ := hheld.form
      rw [hv2] at e0
      have hl : st.look k = st.blocks[k] := by unfold PSt.look; rw [hsc]; simp [scan, List.getD, List.getElem?_eq_getElem hkl]
      have h64 := hheld.1
      generalize st.blocks[k] = l at *
      have Hl := Lib.hid hl
      clear hsc hcell hheld hv2 hl
      go_wp2_with (at_builtin; refine wpList_append_sl (w := _) (base := 0) (v := .slice none 0 0) (news := byts l) rfl (.const (.slice none 0 0)) (.tmp 55) _ rfl Try.underlying49 hi0 hz0 hs0 hb0 rfl rfl (World.ownsRow_nil _ _ _ _) rfl (h64.symm.trans (byts_length l).symm) hA2 hsl2 (byts_one l) (by rw [byts_length]; exact hlc2) (by rw [byts_length, h64]; unfold maxLen; omega) (by rw [byts_length, h64]; omega) (Nat.zero_le _) ?_; intro v3 w3 hown3 hgr3 hbl3)
      obtain ⟨A3, c3, rfl⟩ := own_slice hown3
      go_ret2
      exact ⟨_, rfl, read_end Hr.out hc1 hF hgr3 (by simp [Value.ownBlock]), (hc1.grown hgr3 (by simp [Value.ownBlock])), fun h => absurd rfl h, by rw [Hl.out]; exact copy_fresh hown3 hbl3 hz1⟩
    | succ j =>
      rw [show (((j + 1 : Nat) : Int) - 1) = (j : Int) by omega]
      obtain ⟨b, rfl, hFb, hbz, hcell, _⟩ := hC.at_ (by omega)
      have e0 := (hcell (j * 2) (by omega)).trans (cacheCells_at (show j < st.cache.length by omega) (by omega)).1
      have e1 := (hcell (j * 2 + 1) (by omega)).trans (cacheCells_at (show j < st.cache.length by omega) (by omega)).2
      have hheld := hvs.2 j vs[j] st.cache[j].2 (List.getElem?_eq_getElem (by omega)) (by simp [PSt.count, List.getElem?_eq_getElem (show j < st.cache.length by omega)])
      obtain ⟨A2, c2', hv2, hlc2, hA2, hsl2⟩ := hheld.form
      rw [hv2] at e1
      by_cases hn : st.cache[j].1 = k
      · have q1 : ((st.cache[j].1 : Int) == (k : Int)) = true := by simp; omega
        have hl : st.look k = st.cache[j].2 := by unfold PSt.look; rw [hsc, scan_hit (by omega) hn]; rfl
        have h64 := hheld.1
        generalize st.cache[j].2 = l at *
        have Hl := Lib.hid hl
        clear hsc hcell hheld hv2 hl
        go_wp2_with (at_builtin; refine wpList_append_sl (w := _) (base := 0) (v := .slice none 0 0) (news := byts l) rfl (.const (.slice none 0 0)) (.tmp 47) _ rfl Try.underlying49 hi0 hz0 hs0 hb0 rfl rfl (World.ownsRow_nil _ _ _ _) rfl (h64.symm.trans (byts_length l).symm) hA2 hsl2 (byts_one l) (by rw [byts_length]; exact hlc2) (by rw [byts_length, h64]; unfold maxLen; omega) (by rw [byts_length, h64]; omega) (Nat.zero_le _) ?_; intro v3 w3 hown3 hgr3 hbl3)
        obtain ⟨A3, c3, rfl⟩ := own_slice hown3
        go_ret2
        exact ⟨_, rfl, read_end Hr.out hc1 hF hgr3 (by simp [Value.ownBlock]), (hc1.grown hgr3 (by simp [Value.ownBlock])), fun h => absurd rfl h, by rw [Hl.out]; exact copy_fresh hown3 hbl3 hz1⟩
      · have q1 : ((st.cache[j].1 : Int) == (k : Int)) = false := by simp; omega
        have Hs := Lib.hid (hsc.trans (scan_miss (by omega) hn))
        clear hsc hcell
        go_wp2_with fail
        go_round
        case rel => exact ⟨j, by omega, rfl, Hs.out⟩
        case measure => first | (simp [intOf]; done) | (simp [intOf]; omega)

end Go.Proofs.Ytdengokonaljpaa
