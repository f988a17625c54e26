/- CellBack's reading function: what it does, whole, cut short, and with more behind. -/
import Derived.Test.YtajcfpldjomceaaPenc
import Derived.Deep.RegionHeldLaw
namespace Go.Proofs.Ytajcfpldjomceaa
open Go.RowKit Vint

theorem and_i64 (n : Int) (hn : (Lit.int .i64 n).wf = true) : bits BinOp.and IntKind.i64 n 268435455 = ((m28 n : Nat) : Int) := by
  have hw := wf_int64 hn
  have e : (BitVec.ofInt 64 n).toNat % 2 ^ 28 = m28 n := by
    rw [BitVec.toNat_ofInt]
    unfold m28
    omega
  show IntKind.i64.wrap ((BitVec.ofInt 64 n &&& BitVec.ofInt 64 268435455).toNat : Int) = _
  rw [BitVec.toNat_and, show (BitVec.ofInt 64 268435455).toNat = 2 ^ 28 - 1 from rfl, Nat.and_two_pow_sub_one_eq_mod, e, IntKind.wrap_i64]
  have := m28_lt n
  omega

/-- Reading part j off s fails: too short. -/
def Bad (l : List Part) (j : Nat) (s : List Nat) : Prop := ∃ h : j < l.length, (l[j].d = 2 ∧ rdE 500 s = 2) ∨ (l[j].d ≠ 2 ∧ (num s).2.2 = 2)
/-- Reading part j off s gives what was written, and leaves s'. -/
def Good (l : List Part) (j : Nat) (s s' : List Nat) : Prop := ∃ h : j < l.length, (l[j].d = 2 ∧ RightB l[j].b s s') ∨ (l[j].d ≠ 2 ∧ RightN (m28 l[j].n) s s')
/-- What the function does. -/
def BackP (C : Nat → List Nat → Prop) (l : List Part) (B R L O : Nat) (w : World) (e : Ending) (w' : World) : Prop :=
  ((e = .returned (.tuple #[]) ∧ ∃ s, C l.length s ∧ Rd w' B R L s 0) ∨ (e = .panicked [{ v := errV 2, recovered := false }] ∧ ∃ j s, C j s ∧ Bad l j s ∧ Rd w' B R L s 2)) ∧
    Chg (FX (fun b => b = O) R L) w w' ∧ Blk w' O 4 #[.bool true]

/-- Bytes read, told for the walk. -/
def GotB (B R L : Nat) (W : World) (s' b : List Nat) (e : Ending) (w' : World) : Prop :=
  ∃ A c, e = .returned (.slice A b.length c) ∧ (convert 24 9 (.slice A b.length c)).run Try.prog w' = .ok (.string (bstr b)) w' ∧ Rd w' B R L s' 0 ∧ Chg (RL R L) W w'

/-- In a region that draws its order, where a call panics: nothing is left to walk (go_region_with asks one goal). -/
theorem panic_here {P : Program} (w : World) {G : Prop} (h : G) : wpAny P .any #[] (fun _ _ _ => True) 0 #[] { tmps := #[], defers := [] } w → G := fun _ => h
theorem rd_drew {w : World} {B R L : Nat} {l : List Nat} {e : Int} (h : Rd w B R L l e) : Rd w.drew B R L l e := h.keep (F := fun _ => False) (Chg.refl _ w).drew (fun _ h => h.elim)
theorem gotB {w : World} {B R L : Nat} {s s' b : List Nat} (h : Rd w B R L s 0) (hg : RightB b s s') :
    Calls Try.prog 20 #[.pointer (some ⟨R, 0, none⟩), .int .i64 500] w.drew (GotB B R L w s' b) := by
  obtain ⟨h0, hb, hs⟩ := hg
  refine (rbytes_ok (rd_drew h) 500 h0).mono ?_
  rintro e w' ⟨A, c, rfl, hown, hr, hc⟩
  rw [hb] at hown
  rw [hs] at hr
  refine ⟨A, c, by rw [hb], conv_b (Sl.of_own hown), hr, ⟨hc.os, hc.tape, hc.output, hc.size, hc.block⟩⟩
theorem gotN {w : World} {B R L : Nat} {s s' : List Nat} {n : Nat} (h : Rd w B R L s 0) (hg : RightN n s s') :
    Calls Try.prog 22 #[.pointer (some ⟨R, 0, none⟩)] w.drew fun e w' => e = .returned (.int .i64 (n : Int)) ∧ Rd w' B R L s' 0 ∧ Chg (RL R L) w w' := by
  obtain ⟨h0, hb, hs⟩ := hg
  refine (rnum_ok (rd_drew h) h0).mono ?_
  rintro e w' ⟨rfl, hr, hc⟩
  rw [hs] at hr
  exact ⟨by rw [hb], hr, ⟨hc.os, hc.tape, hc.output, hc.size, hc.block⟩⟩
theorem badB {w : World} {B R L : Nat} {s : List Nat} (h : Rd w B R L s 0) (hg : rdE 500 s = 2) :
    Calls Try.prog 20 #[.pointer (some ⟨R, 0, none⟩), .int .i64 500] w.drew fun e w' => e = .panicked [{ v := errV 2, recovered := false }] ∧ Rd w' B R L s 2 ∧ Chg (RL R L) w w' := by
  refine (rbytes_bad (rd_drew h) 500 (by rw [hg]; decide)).mono ?_
  rintro e w' ⟨rfl, hr, hc⟩
  rw [hg] at hr ⊢
  exact ⟨rfl, hr, ⟨hc.os, hc.tape, hc.output, hc.size, hc.block⟩⟩
theorem badN {w : World} {B R L : Nat} {s : List Nat} (h : Rd w B R L s 0) (hg : (num s).2.2 = 2) :
    Calls Try.prog 22 #[.pointer (some ⟨R, 0, none⟩)] w.drew fun e w' => e = .panicked [{ v := errV 2, recovered := false }] ∧ Rd w' B R L s 2 ∧ Chg (RL R L) w w' := by
  refine (rnum_bad (rd_drew h) (by omega)).mono ?_
  rintro e w' ⟨rfl, hr, hc⟩
  rw [hg] at hr ⊢
  exact ⟨rfl, hr, ⟨hc.os, hc.tape, hc.output, hc.size, hc.block⟩⟩

set_option maxRecDepth 4000 in
set_option maxHeartbeats 4000000 in
theorem back1_any (C : Nat → List Nat → Prop) {w : World} {B R L p O c : Nat} {A : Option Addr} {l : List Part} {s0 : List Nat} (hC0 : C 0 s0) (hC : ∀ j s, j < l.length → C j s → (∃ s', Good l j s s' ∧ C (j + 1) s') ∨ Bad l j s)
    (h : Rd w B R L s0 0) (hlen : l.length ≤ 100) (hp : Blk w p 22 #[.slice A l.length c]) (hO : Blk w O 4 #[.bool true]) (hl : PartsAt w p A l) (hok : ∀ x ∈ l, x.ok w p) (hpB : p < B) (hOB : O < B) (hpO : p < O) :
    Calls Try.prog 24 #[.pointer (some ⟨R, 0, none⟩), .pointer (some ⟨p, 0, none⟩), .pointer (some ⟨O, 0, none⟩)] w (BackP C l B R L O w) := by
  have hB := h.bR
  have hBL := h.bL
  go_enter Try.func24, Try.ntmps24
  go_wp2_with fail
  go_loopw [4] (fun v wr => ∃ (j : Nat) (s : List Nat), j ≤ l.length ∧ v = .int .i64 j ∧ C j s ∧ Rd wr B R L s 0 ∧ Chg (FX (fun b => b = O) R L) w wr ∧ Blk wr O 4 #[.bool true]) (fun v _ => l.length - (intOf v).toNat)
  case atStart => exact ⟨0, s0, by omega, rfl, hC0, h, Chg.refl _ _, hO⟩
  case round =>
    obtain ⟨j, s, hj, rfl, hCj, hr, hc, ho⟩ := hrel
    have hp1 := hp.keep (hc.block p hp.lt (by rintro (h | h | h) <;> omega))
    have cp := cell_at hp1
    have hbelow : Below p w wr := hc.below (by have := hp.lt; omega) (by rintro i (h | h | h) <;> omega)
    by_cases hlt : j < l.length
    · obtain ⟨b, o, rfl, hb, x0, x1, x2⟩ := part_cells (hl.below hbelow) hlt
      have hx := (hok l[j] (List.getElem_mem _)).below hbelow
      have q1 : decide (j < l.length) = true := by simpa using hlt
      have hCC := hC j s hlt hCj
      have hbl : b < wr.heap.size := by have := hp1.lt; omega
      have hol := ho.lt
      have hpl := hp1.lt
      have co := cell_at ho
      have fo := ho.frozen 0
      have hne : b ≠ O ∧ b ≠ R ∧ b ≠ L ∧ p ≠ O ∧ p ≠ R ∧ p ≠ L ∧ O ≠ R ∧ O ≠ L := by omega
      obtain ⟨n1, n2, n3, n4, n5, n6, n7, n8⟩ := hne
      have hcc : Chg (RL R L) wr wr.drew := (Chg.refl _ wr).drew
      have hblk : ∀ w', Chg (RL R L) wr w' → Blk w' O 4 #[.bool true] := fun w' h => ho.keep (h.block O hol (by rintro (h | h) <;> omega))
      have Hblk := Lib.hid hblk
      by_cases hd : l[j].d = 2
      · have q2 : (l[j].d == 2) = true := by simpa using hd
        have hxs : ∀ w', Chg (RL R L) wr w' → Sl w' p l[j].A (byts l[j].b) := fun w' h => hx.sl.below (h.below (by omega) (by rintro i (h | h) <;> omega))
        have keep : ∀ w', Chg (RL R L) wr w' → w'.cell? ⟨p, 0, none⟩ = some (.slice (some ⟨b, o, none⟩) l.length c) ∧ w'.cell? ⟨b, o + j * 3 + 2, none⟩ = some (.slice l[j].A l[j].b.length l[j].cap) ∧ w'.cell? ⟨O, 0, none⟩ = some (.bool true) ∧ w'.frozen? ⟨O, 0, none⟩ = false ∧ (convert 24 9 (.slice l[j].A l[j].b.length l[j].cap)).run Try.prog w' = .ok (.string (bstr l[j].b)) w' := fun w' h =>
          ⟨(World.cell?_of_block (h.block p hpl (by rintro (h | h) <;> omega))).trans cp, (World.cell?_of_block (h.block b hbl (by rintro (h | h) <;> omega))).trans x2, (hblk w' h).cell 0, (hblk w' h).frozen 0, conv_b (hxs w' h)⟩
        have keeps : ∀ w', Chg (RL R L) wr w' → (w'.setCell ⟨O, 0, none⟩ (.bool true)).cell? ⟨p, 0, none⟩ = some (.slice (some ⟨b, o, none⟩) l.length c) ∧ (w'.setCell ⟨O, 0, none⟩ (.bool true)).cell? ⟨b, o + j * 3 + 2, none⟩ = some (.slice l[j].A l[j].b.length l[j].cap) ∧ (w'.setCell ⟨O, 0, none⟩ (.bool true)).cell? ⟨O, 0, none⟩ = some (.bool true) ∧ (w'.setCell ⟨O, 0, none⟩ (.bool true)).frozen? ⟨O, 0, none⟩ = false ∧ (convert 24 9 (.slice l[j].A l[j].b.length l[j].cap)).run Try.prog (w'.setCell ⟨O, 0, none⟩ (.bool true)) = .ok (.string (bstr l[j].b)) (w'.setCell ⟨O, 0, none⟩ (.bool true)) := fun w' h => by
          obtain ⟨k1, k2, _, _, _⟩ := keep w' h
          have hs := (hblk w' h).set_ 0 (.bool true)
          exact ⟨(World.cell?_of_block (Below.heap_setCell w' ⟨O, 0, none⟩ _ p n4)).trans k1, (World.cell?_of_block (Below.heap_setCell w' ⟨O, 0, none⟩ _ b n1)).trans k2, hs.cell 0, hs.frozen 0, conv_b ((hxs w' h).below ((Below.refl p w').setCell (p := ⟨O, 0, none⟩) (by simpa using Nat.le_of_lt hpO) _))⟩
        have Kp := Lib.hid keep
        have Ks := Lib.hid keeps
        have Hc := Lib.hid hc
        rcases hCC with ⟨s', ⟨_, hg⟩, hC1⟩ | ⟨_, hbad⟩
        · have hg' : RightB l[j].b s s' := by
            rcases hg with ⟨_, h⟩ | ⟨h, _⟩
            · exact h
            · exact absurd hd h
          have HN := Lib.hid (gotB hr hg')
          have HC1 := Lib.hid hC1
          generalize l[j] = x at *
          clear hg hg' hC1 hr hc ho hp1 hx hxs keep keeps hblk hCj h hp hO hl hok hC hC0 hbelow
          generalize x.d = d at *
          clear hd
          go_wp2_with fail
          go_region_held_law (fun w' => w'.cell? ⟨p, 0, none⟩ = some (.slice (some ⟨b, o, none⟩) l.length c) ∧ w'.cell? ⟨b, o + j * 3 + 2, none⟩ = some (.slice x.A x.b.length x.cap) ∧ w'.cell? ⟨O, 0, none⟩ = some (.bool true) ∧ w'.frozen? ⟨O, 0, none⟩ = false ∧ (convert 24 9 (.slice x.A x.b.length x.cap)).run Try.prog w' = .ok (.string (bstr x.b)) w') (first | exact Kp.out _ hcc | exact Ks.out _ hcc) (first
            | (go_at_call 20; ((with_reducible refine HN.out.mono ?_); rintro e w' ⟨A2, c2, rfl, hcv, h2, hcc⟩)))
          all_goals
            go_wp2_with fail
            have hcx : Chg (fun b => b = O) w' (w'.setCell ⟨O, 0, none⟩ (.bool true)) := (Chg.refl (fun b => b = O) w').setCell (p := ⟨O, 0, none⟩) (.inl rfl) _
            go_roundw
            case rel => exact ⟨j + 1, s', by omega, by go_num, HC1.out, h2.keep hcx (fun b hb => by omega), (Hc.out.then_ (hcc.mono fun _ h => .inr h)).then_ (hcx.mono fun _ h => .inl h), by simpa using (Hblk.out _ hcc).set_ 0 (.bool true)⟩
            case measure => simp [intOf]; omega
        · have hbad' : rdE 500 s = 2 := by
            rcases hbad with ⟨_, h⟩ | ⟨h, _⟩
            · exact h
            · exact absurd hd h
          have HN := Lib.hid (badB hr hbad')
          have HCj := Lib.hid hCj
          have HBad : Hid (Bad l j s) := Lib.hid ⟨hlt, .inl ⟨hd, hbad'⟩⟩
          obtain ⟨k1, k2, k3, k4, k5⟩ := keep wr.drew hcc
          generalize l[j] = x at *
          clear hbad hbad' hr hc ho hp1 hx hxs keep keeps hblk hCj h hp hO hl hok hC hC0 hbelow
          generalize x.d = d at *
          clear hd
          go_wp2_with fail
          go_region_with (first
            | (go_at_call 20; ((with_reducible refine HN.out.mono ?_); rintro e w' ⟨rfl, h2, hcc⟩; refine panic_here (P := Try.prog) w' ⟨rfl, .inr ⟨rfl, j, s, HCj.out, HBad.out, h2⟩, Hc.out.then_ (hcc.mono fun _ h => .inr h), Hblk.out _ hcc⟩ ?_)))
          all_goals trivial
      · have q2 : (l[j].d == 2) = false := by simpa using hd
        have ha := and_i64 _ hx.wn
        have keep : ∀ w', Chg (RL R L) wr w' → w'.cell? ⟨p, 0, none⟩ = some (.slice (some ⟨b, o, none⟩) l.length c) ∧ w'.cell? ⟨b, o + j * 3 + 1, none⟩ = some (.int .i64 l[j].n) ∧ w'.cell? ⟨O, 0, none⟩ = some (.bool true) ∧ w'.frozen? ⟨O, 0, none⟩ = false := fun w' h =>
          ⟨(World.cell?_of_block (h.block p hpl (by rintro (h | h) <;> omega))).trans cp, (World.cell?_of_block (h.block b hbl (by rintro (h | h) <;> omega))).trans x1, (hblk w' h).cell 0, (hblk w' h).frozen 0⟩
        have keeps : ∀ w', Chg (RL R L) wr w' → (w'.setCell ⟨O, 0, none⟩ (.bool true)).cell? ⟨p, 0, none⟩ = some (.slice (some ⟨b, o, none⟩) l.length c) ∧ (w'.setCell ⟨O, 0, none⟩ (.bool true)).cell? ⟨b, o + j * 3 + 1, none⟩ = some (.int .i64 l[j].n) ∧ (w'.setCell ⟨O, 0, none⟩ (.bool true)).cell? ⟨O, 0, none⟩ = some (.bool true) ∧ (w'.setCell ⟨O, 0, none⟩ (.bool true)).frozen? ⟨O, 0, none⟩ = false := fun w' h => by
          obtain ⟨k1, k2, _, _⟩ := keep w' h
          have hs := (hblk w' h).set_ 0 (.bool true)
          exact ⟨(World.cell?_of_block (Below.heap_setCell w' ⟨O, 0, none⟩ _ p n4)).trans k1, (World.cell?_of_block (Below.heap_setCell w' ⟨O, 0, none⟩ _ b n1)).trans k2, hs.cell 0, hs.frozen 0⟩
        have Kp := Lib.hid keep
        have Ks := Lib.hid keeps
        have Hc := Lib.hid hc
        rcases hCC with ⟨s', ⟨_, hg⟩, hC1⟩ | ⟨_, hbad⟩
        · have hg' : RightN (m28 l[j].n) s s' := by
            rcases hg with ⟨h, _⟩ | ⟨_, h⟩
            · exact absurd h hd
            · exact h
          have HN := Lib.hid (gotN hr hg')
          have HC1 := Lib.hid hC1
          generalize m28 l[j].n = m at *
          generalize l[j].n = n at *
          generalize l[j].d = d at *
          clear hg hg' hC1 hr hc ho hp1 hx keep keeps hblk hCj hd h hp hO hl hok hC hC0 hbelow
          go_wp2_with fail
          go_region_held_law (fun w' => w'.cell? ⟨p, 0, none⟩ = some (.slice (some ⟨b, o, none⟩) l.length c) ∧ w'.cell? ⟨b, o + j * 3 + 1, none⟩ = some (.int .i64 n) ∧ w'.cell? ⟨O, 0, none⟩ = some (.bool true) ∧ w'.frozen? ⟨O, 0, none⟩ = false) (first | exact Kp.out _ hcc | exact Ks.out _ hcc) (first
            | (go_at_call 22; ((with_reducible refine HN.out.mono ?_); rintro e w' ⟨rfl, h2, hcc⟩)))
          all_goals
            go_wp2_with fail
            have hcx : Chg (fun b => b = O) w' (w'.setCell ⟨O, 0, none⟩ (.bool true)) := (Chg.refl (fun b => b = O) w').setCell (p := ⟨O, 0, none⟩) (.inl rfl) _
            go_roundw
            case rel => exact ⟨j + 1, s', by omega, by go_num, HC1.out, h2.keep hcx (fun b hb => by omega), (Hc.out.then_ (hcc.mono fun _ h => .inr h)).then_ (hcx.mono fun _ h => .inl h), by simpa using (Hblk.out _ hcc).set_ 0 (.bool true)⟩
            case measure => simp [intOf]; omega
        · have hbad' : (num s).2.2 = 2 := by
            rcases hbad with ⟨h, _⟩ | ⟨_, h⟩
            · exact absurd h hd
            · exact h
          have HN := Lib.hid (badN hr hbad')
          have HCj := Lib.hid hCj
          have HBad : Hid (Bad l j s) := Lib.hid ⟨hlt, .inr ⟨hd, hbad'⟩⟩
          generalize m28 l[j].n = m at *
          generalize l[j].n = n at *
          generalize l[j].d = d at *
          clear hbad hbad' hr hc ho hp1 hx keep keeps hblk hCj hd h hp hO hl hok hC hC0 hbelow
          go_wp2_with fail
          go_region_with (first
            | (go_at_call 22; ((with_reducible refine HN.out.mono ?_); rintro e w' ⟨rfl, h2, hcc⟩; refine panic_here (P := Try.prog) w' ⟨rfl, .inr ⟨rfl, j, s, HCj.out, HBad.out, h2⟩, Hc.out.then_ (hcc.mono fun _ h => .inr h), Hblk.out _ hcc⟩ ?_)))
          all_goals trivial
    · have hjl : j = l.length := by omega
      subst hjl
      have q1 : decide (l.length < l.length) = false := by simp
      have H2 := Lib.hid hr
      have Hc := Lib.hid hc
      have Ho := Lib.hid ho
      have HC := Lib.hid hCj
      clear hr hc ho hlt hj hp1 h hp hO hl hok hC hC0 hCj hbelow
      go_wp2_with fail
      refine bodyPost_end (results_none rfl _ _ _) rfl ?_
      exact ⟨.inl ⟨rfl, s, HC.out, H2.out⟩, Hc.out, Ho.out⟩
end Go.Proofs.Ytajcfpldjomceaa
