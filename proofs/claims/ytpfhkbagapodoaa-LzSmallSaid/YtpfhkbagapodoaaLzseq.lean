/- The program's sequence: the next sequence of a block. -/
import Derived.Test.YtpfhkbagapodoaaLzsrc
import Derived.Deep.RegionHeldLaw
namespace Go.Proofs.Ytpfhkbagapodoaa
open Go.RowKit

theorem panic_here {P : Program} (w : World) {G : Prop} (h : G) : wpAny P .any #[] (fun _ _ _ => True) 0 #[] { tmps := #[], defers := [] } w → G := fun _ => h
theorem and15b {t : Nat} (ht : t < 256) : bits BinOp.and IntKind.u8 (t : Int) 15 = ((t % 16 : Nat) : Int) := by
  have h' : ∀ z : Nat, z < 256 → bits BinOp.and IntKind.u8 (z : Int) 15 = ((z % 16 : Nat) : Int) := by decide +kernel
  exact h' t ht
section
variable {w : World} {B S : Nat} {r q : List Nat} {s m : Nat}
theorem length_ok (h : Src w B S r) (hs : s < 16) (ha : Lz.added r s = some (m, q)) (z : Int) (hz : z = (s : Int)) :
    Calls Try.prog 29 #[.pointer (some ⟨S, 0, none⟩), .int .u8 z] w fun e w' => e = .returned (.int .i64 (m : Int)) ∧ Src w' B S q ∧ ChS S w w' := by
  refine (length_any h s z hz hs).mono ?_
  rintro e w' ⟨hc, ⟨m', q', h', rfl, hs'⟩ | ⟨h', _⟩⟩
  · rw [ha] at h'
    injection h' with h'; injection h' with h1 h2
    subst h1; subst h2
    exact ⟨rfl, hs', hc⟩
  · rw [ha] at h'; cases h'
theorem length_no (h : Src w B S r) (hs : s < 16) (ha : Lz.added r s = none) (z : Int) (hz : z = (s : Int)) :
    Calls Try.prog 29 #[.pointer (some ⟨S, 0, none⟩), .int .u8 z] w fun e w' => e = errShort ∧ ChS S w w' := by
  refine (length_any h s z hz hs).mono ?_
  rintro e w' ⟨hc, ⟨m', q', h', _⟩ | ⟨_, rfl⟩⟩
  · rw [ha] at h'; cases h'
  · exact ⟨rfl, hc⟩
end

/-- How a sequence that is whole is returned. -/
def SeqR (B S : Nat) (ls : List Nat) (last : Bool) (back many : Int) (r : List Nat) (w : World) (e : Ending) (w' : World) : Prop :=
  ∃ A c, e = .returned (.agg #[.slice A ls.length c, .bool last, .int .i64 back, .int .i64 many]) ∧ ls.length ≤ c ∧ (A = none → c = 0) ∧ Sl w' B A (byts ls) ∧ Src w' B S r ∧ ChS S w w'

/-- Four cells stored into. -/
theorem set4 {w : World} {g : Nat} {t : TypeId} {x0 x1 x2 x3 : Value} (h : Blk w g t #[x0, x1, x2, x3]) (y0 y1 y2 y3 : Value) :
    Blk ((((w.setCell ⟨g, 0, none⟩ y0).setCell ⟨g, 1, none⟩ y1).setCell ⟨g, 2, none⟩ y2).setCell ⟨g, 3, none⟩ y3) g t #[y0, y1, y2, y3] := by
  have := (((h.set_ 0 y0).set_ 1 y1).set_ 2 y2).set_ 3 y3
  simpa using this
theorem set4_chg {F : Nat → Prop} {w w3 : World} {g : Nat} (h : Chg F w w3) (hg : w.heap.size ≤ g) (y0 y1 y2 y3 : Value) :
    Chg F w ((((w3.setCell ⟨g, 0, none⟩ y0).setCell ⟨g, 1, none⟩ y1).setCell ⟨g, 2, none⟩ y2).setCell ⟨g, 3, none⟩ y3) :=
  (((h.setCell (p := ⟨g, 0, none⟩) (.inr hg) y0).setCell (p := ⟨g, 1, none⟩) (.inr hg) y1).setCell (p := ⟨g, 2, none⟩) (.inr hg) y2).setCell (p := ⟨g, 3, none⟩) (.inr hg) y3
theorem set4_chg' {F : Nat → Prop} {w w3 : World} {g : Nat} (h : Chg F w w3) (hg : F g) (y0 y1 y2 y3 : Value) :
    Chg F w ((((w3.setCell ⟨g, 0, none⟩ y0).setCell ⟨g, 1, none⟩ y1).setCell ⟨g, 2, none⟩ y2).setCell ⟨g, 3, none⟩ y3) :=
  (((h.setCell (p := ⟨g, 0, none⟩) (.inl hg) y0).setCell (p := ⟨g, 1, none⟩) (.inl hg) y1).setCell (p := ⟨g, 2, none⟩) (.inl hg) y2).setCell (p := ⟨g, 3, none⟩) (.inl hg) y3
theorem seq_end {w w3 : World} {B S g n c : Nat} {A : Option Addr} {ls r : List Nat} (hg : w.heap.size = g) (hS : S < g) (hc : ChS S w w3) (hs : Src w3 B S r) (hsl : Sl w3 B A (byts ls)) (hn : ls.length = n) (hnc : n ≤ c) (hA : A = none → c = 0) (last : Bool) (back many : Int) :
    SeqR B S ls last back many r w (.returned (.agg #[.slice A n c, .bool last, .int .i64 back, .int .i64 many]))
      ((((w3.setCell ⟨g, 0, none⟩ (.slice A n c)).setCell ⟨g, 1, none⟩ (.bool last)).setCell ⟨g, 2, none⟩ (.int .i64 back)).setCell ⟨g, 3, none⟩ (.int .i64 many)) := by
  subst hn
  have hch := set4_chg (F := fun b => b = S) hc (Nat.le_of_eq hg) (.slice A ls.length c) (.bool last) (.int .i64 back) (.int .i64 many)
  have hc3 : Chg (fun b => b = g) w3 ((((w3.setCell ⟨g, 0, none⟩ (.slice A ls.length c)).setCell ⟨g, 1, none⟩ (.bool last)).setCell ⟨g, 2, none⟩ (.int .i64 back)).setCell ⟨g, 3, none⟩ (.int .i64 many)) :=
    ((((Chg.refl (fun b => b = g) w3).setCell (p := ⟨g, 0, none⟩) (.inl rfl) _).setCell (p := ⟨g, 1, none⟩) (.inl rfl) _).setCell (p := ⟨g, 2, none⟩) (.inl rfl) _).setCell (p := ⟨g, 3, none⟩) (.inl rfl) _
  have hbS := hs.bS
  have hSw := hs.lt_heap
  have hbel := hc3.below (B := B) (by omega) (fun i hi => by omega)
  exact ⟨A, c, rfl, hnc, hA, hsl.below hbel, hs.keep (hc3.block S hSw (by omega)) hbel, hch⟩

set_option maxRecDepth 4000 in
set_option maxHeartbeats 4000000 in
theorem seq_no {w : World} {B S : Nat} {l : List Nat} (h : Src w B S l) (hn : Lz.next l = none) :
    Calls Try.prog 23 #[.pointer (some ⟨S, 0, none⟩)] w fun e w' => e = errShort ∧ ChS S w w' := by
  cases l with
  | nil =>
    obtain ⟨w0, h0⟩ : ∃ x, x = w.alloc (.cells #[.slice none 0 0, .bool false, .int .i64 0, .int .i64 0] 52) := ⟨_, rfl⟩
    have hS := h.lt_heap
    have e0 : w.alloc (.cells #[.slice none 0 0, .bool false, .int .i64 0, .int .i64 0] 52) = w0 := h0.symm
    have hs0 : Src w0 B S [] := h.keep (by rw [h0]; exact Below.heap_alloc _ _ _ hS) (by rw [h0]; exact (Below.refl _ _).alloc (Nat.le_trans h.bS (Nat.le_of_lt hS)) _)
    have hc0 : ChS S w w0 := by rw [h0]; exact (Chg.refl _ _).alloc _
    have Hc0 := Lib.hid hc0
    have hBS := h.bS
    have N1 := Lib.hid (take_no hs0 1 1 rfl (by simp))
    clear h h0 hs0 hc0
    generalize hg : w.heap.size = g at *
    go_enter Try.func23, Try.ntmps23
    go_wp2_with fail
    refine N1.out.mono ?_
    rintro e w1 ⟨rfl, rfl⟩
    go_wp2_with fail
    exact ⟨rfl, rfl, Hc0.out⟩
  | cons t r =>
    have ht := h.lt t (List.mem_cons_self ..)
    have hrlt : ∀ x ∈ r, x < 256 := fun x hx => h.lt x (List.mem_cons_of_mem _ hx)
    obtain ⟨w0, h0⟩ : ∃ x, x = w.alloc (.cells #[.slice none 0 0, .bool false, .int .i64 0, .int .i64 0] 52) := ⟨_, rfl⟩
    have hS := h.lt_heap
    have e0 : w.alloc (.cells #[.slice none 0 0, .bool false, .int .i64 0, .int .i64 0] 52) = w0 := h0.symm
    have hs0 : Src w0 B S (t :: r) := h.keep (by rw [h0]; exact Below.heap_alloc _ _ _ hS) (by rw [h0]; exact (Below.refl _ _).alloc (Nat.le_trans h.bS (Nat.le_of_lt hS)) _)
    have hc0 : ChS S w w0 := by rw [h0]; exact (Chg.refl _ _).alloc _
    have Hc0 := Lib.hid hc0
    have hBS := h.bS
    cases ha : Lz.added r (t / 16) with
    | none =>
      have N1 := Lib.hid (take1 hs0)
      clear h h0 hs0 hc0
      generalize hg : w.heap.size = g at *
      go_enter Try.func23, Try.ntmps23
      go_wp2_with fail
      refine N1.out.mono ?_
      rintro e w1 ⟨b, o, c, rfl, hb, hcell, hs1, hc1⟩
      have Hc1 := Lib.hid (Hc0.out.then_ hc1)
      have N2 := Lib.hid (fun z hz => length_no hs1 (s := t / 16) (by omega) ha z hz)
      clear hs1 hc1 Hc0 N1
      go_wp2_with fail
      refine (N2.out _ (by omega)).mono ?_
      rintro e w2 ⟨rfl, hc2⟩
      go_wp2_with fail
      exact ⟨rfl, rfl, Hc1.out.then_ hc2⟩
    | some pr =>
      obtain ⟨lits, q⟩ := pr
      by_cases h1 : q.length < lits
      · skip
        have N1 := Lib.hid (take1 hs0)
        clear h h0 hs0 hc0
        generalize hg : w.heap.size = g at *
        go_enter Try.func23, Try.ntmps23
        go_wp2_with fail
        refine N1.out.mono ?_
        rintro e w1 ⟨b, o, c, rfl, hb, hcell, hs1, hc1⟩
        have Hc1 := Lib.hid (Hc0.out.then_ hc1)
        have N2 := Lib.hid (fun z hz => length_ok hs1 (s := t / 16) (by omega) ha z hz)
        clear hs1 hc1 Hc0 N1
        go_wp2_with fail
        refine (N2.out _ (by omega)).mono ?_
        rintro e w2 ⟨rfl, hs2, hc2⟩
        have Hc2 := Lib.hid (Hc1.out.then_ hc2)
        have N3 := Lib.hid (take_no hs2 lits lits rfl h1)
        clear hs2 hc2 Hc1 N2 hcell
        go_wp2_with fail
        refine N3.out.mono ?_
        rintro e w3 ⟨rfl, rfl⟩
        go_wp2_with fail
        exact ⟨rfl, rfl, Hc2.out⟩
      by_cases h2 : q.length = lits
      · rw [Lz.next_last ha h2] at hn; cases hn
      by_cases h3 : q.length = lits + 1
      · skip
        have N1 := Lib.hid (take1 hs0)
        clear h h0 hs0 hc0
        generalize hg : w.heap.size = g at *
        go_enter Try.func23, Try.ntmps23
        go_wp2_with fail
        refine N1.out.mono ?_
        rintro e w1 ⟨b, o, c, rfl, hb, hcell, hs1, hc1⟩
        have Hc1 := Lib.hid (Hc0.out.then_ hc1)
        have N2 := Lib.hid (fun z hz => length_ok hs1 (s := t / 16) (by omega) ha z hz)
        clear hs1 hc1 Hc0 N1
        go_wp2_with fail
        refine (N2.out _ (by omega)).mono ?_
        rintro e w2 ⟨rfl, hs2, hc2⟩
        have Hc2 := Lib.hid (Hc1.out.then_ hc2)
        have N3 := Lib.hid (take_ok hs2 lits lits rfl (by omega))
        clear hs2 hc2 Hc1 N2 hcell
        go_wp2_with fail
        refine N3.out.mono ?_
        rintro e w3 ⟨A3, c3, rfl, hk3, hA3, hsl3, hs3, hc3⟩
        have Hc3 := Lib.hid (Hc2.out.then_ hc3)
        obtain ⟨A4, c4, hblk4, _⟩ := hs3.ex
        have k0 : w3.cell? ⟨S, 0, none⟩ = some (.slice A4 (q.drop lits).length c4) := hblk4.cell 0
        have N4 := Lib.hid (take_no hs3 2 2 rfl (by rw [List.length_drop]; omega))
        rw [show (q.drop lits).length = 1 by rw [List.length_drop]; omega] at k0
        clear hs3 hsl3 hblk4 hc3 N3 Hc2
        go_wp2_with fail
        refine N4.out.mono ?_
        rintro e w4 ⟨rfl, rfl⟩
        go_wp2_with fail
        exact ⟨rfl, rfl, Hc3.out⟩
      have hd := Lz.drop_two (q := q) (k := lits) (by omega)
      cases hb2 : Lz.added (q.drop (lits + 2)) (t % 16) with
      | some pr2 =>
        obtain ⟨many2, q2⟩ := pr2
        rw [Lz.next_more ha (by omega) hd hb2] at hn
        cases hn
      | none =>
        have hqlt : ∀ x ∈ q, x < 256 := fun x hx => hrlt x (by rw [(Lz.added_len ha).2.2] at hx; exact List.mem_of_mem_drop hx)
        have Hb2' := Lib.hid hb2
        have Hd := Lib.hid hd
        clear hb2 hd
        have N1 := Lib.hid (take1 hs0)
        clear h h0 hs0 hc0
        generalize hg : w.heap.size = g at *
        go_enter Try.func23, Try.ntmps23
        go_wp2_with fail
        refine N1.out.mono ?_
        rintro e w1 ⟨b, o, c, rfl, hb, hcell, hs1, hc1⟩
        have Hc1 := Lib.hid (Hc0.out.then_ hc1)
        have N2 := Lib.hid (fun z hz => length_ok hs1 (s := t / 16) (by omega) ha z hz)
        clear hs1 hc1 Hc0 N1
        go_wp2_with fail
        refine (N2.out _ (by omega)).mono ?_
        rintro e w2 ⟨rfl, hs2, hc2⟩
        have Hc2 := Lib.hid (Hc1.out.then_ hc2)
        have N3 := Lib.hid (take_ok hs2 lits lits rfl (by omega))
        clear hs2 hc2 Hc1 N2 hcell
        go_wp2_with fail
        refine N3.out.mono ?_
        rintro e w3 ⟨A3, c3, rfl, hk3, hA3, hsl3, hs3, hc3⟩
        have Hc3 := Lib.hid (Hc2.out.then_ hc3)
        have hx0 := getB_lt hqlt lits
        have hx1 := getB_lt hqlt (lits + 1)
        rw [Hd.out] at hs3
        generalize q.getD lits 0 = x0 at *
        generalize q.getD (lits + 1) 0 = x1 at *
        obtain ⟨A4, c4, hblk4, _⟩ := hs3.ex
        have k0 : w3.cell? ⟨S, 0, none⟩ = some (.slice A4 (x0 :: x1 :: q.drop (lits + 2)).length c4) := hblk4.cell 0
        generalize hN : (x0 :: x1 :: q.drop (lits + 2)).length = N at *
        have hN2 : 2 ≤ N := by rw [← hN]; simp
        have hne' : ((N : Int) == 0) = false := by rw [beq_eq_false_iff_ne]; omega
        have N4 := Lib.hid (take2 hs3)
        clear hs3 hsl3 hblk4 hc3 N3 Hc2 hN
        go_wp2_with fail
        refine N4.out.mono ?_
        rintro e w4 ⟨b4, o4, c4', rfl, hb4, y0, y1, hs4, hc4⟩
        have o8 := or8 hx0 hx1
        have a15 := and15b ht
        have hs4d : Src w4.drew B S (q.drop (lits + 2)) := hs4.keep rfl ⟨rfl, rfl, rfl, Nat.le_refl _, fun _ _ => rfl⟩
        have N5 := Lib.hid (length_no hs4d (s := t % 16) (by omega) Hb2'.out ((t : Int) % 16) (by omega))
        have Hc4 := Lib.hid ((Hc3.out.then_ hc4).then_ ((Chg.refl (fun b => b = S) w4).drew))
        have hw0 : IntKind.i64.wrap (x0 : Int) = (x0 : Int) := by rw [IntKind.wrap_i64]; omega
        have hw1 : IntKind.i64.wrap (x1 : Int) = (x1 : Int) := by rw [IntKind.wrap_i64]; omega
        have hw2 : IntKind.i64.wrap ((x1 : Int) * 256) = (x1 : Int) * 256 := by rw [IntKind.wrap_i64]; omega
        clear hs4 hs4d hc4 N4 Hc3
        go_wp2_with fail
        go_region_with (first
          | (go_at_call 29; ((with_reducible refine N5.out.mono ?_); rintro e w5 ⟨rfl, hc5⟩; refine panic_here (P := Try.prog) w5 ⟨rfl, rfl, Hc4.out.then_ hc5⟩ ?_)))
        all_goals trivial

set_option maxRecDepth 4000 in
set_option maxHeartbeats 4000000 in
theorem seq_last {w : World} {B S : Nat} {l ls : List Nat} (h : Src w B S l) (hn : Lz.next l = some (ls, none)) :
    Calls Try.prog 23 #[.pointer (some ⟨S, 0, none⟩)] w (SeqR B S ls true 0 0 [] w) := by
  cases l with
  | nil => cases hn
  | cons t r =>
    cases ha : Lz.added r (t / 16) with
    | none => rw [Lz.next_none ha] at hn; cases hn
    | some pr =>
      obtain ⟨lits, q⟩ := pr
      by_cases h1 : q.length < lits
      · rw [Lz.next_short ha h1] at hn; cases hn
      by_cases h2 : q.length = lits
      · rw [Lz.next_last ha h2] at hn
        injection hn with hn; injection hn with hn _
        subst hn
        have ht := h.lt t (List.mem_cons_self ..)
        obtain ⟨w0, h0⟩ : ∃ x, x = w.alloc (.cells #[.slice none 0 0, .bool false, .int .i64 0, .int .i64 0] 52) := ⟨_, rfl⟩
        have hS := h.lt_heap
        have e0 : w.alloc (.cells #[.slice none 0 0, .bool false, .int .i64 0, .int .i64 0] 52) = w0 := h0.symm
        have hs0 : Src w0 B S (t :: r) := h.keep (by rw [h0]; exact Below.heap_alloc _ _ _ hS) (by rw [h0]; exact (Below.refl _ _).alloc (Nat.le_trans h.bS (Nat.le_of_lt hS)) _)
        have hc0 : ChS S w w0 := by rw [h0]; exact (Chg.refl _ _).alloc _
        have hb0 : Blk w0 w.heap.size 52 #[.slice none 0 0, .bool false, .int .i64 0, .int .i64 0] := by rw [h0]; exact Blk.new _ _ _
        have N1 := Lib.hid (take1 hs0)
        have Hc0 := Lib.hid hc0
        have Hb0 := Lib.hid hb0
        clear h h0 hs0 hc0 hb0
        generalize hg : w.heap.size = g at *
        go_enter Try.func23, Try.ntmps23
        go_wp2_with fail
        refine N1.out.mono ?_
        rintro e w1 ⟨b, o, c, rfl, hb, hcell, hs1, hc1⟩
        have N2 := Lib.hid (fun z hz => length_ok hs1 (s := t / 16) (by omega) ha z hz)
        have Hb1 := Lib.hid (Hb0.out.keep (hc1.block _ Hb0.out.lt (by omega)))
        have Hc1 := Lib.hid (Hc0.out.then_ hc1)
        clear hs1 hc1 Hb0 Hc0 N1
        go_wp2_with fail
        refine (N2.out _ (by omega)).mono ?_
        rintro e w2 ⟨rfl, hs2, hc2⟩
        have N3 := Lib.hid (take_ok hs2 lits lits rfl (by omega))
        have Hb2 := Lib.hid (Hb1.out.keep (hc2.block _ Hb1.out.lt (by omega)))
        have Hc2 := Lib.hid (Hc1.out.then_ hc2)
        clear hs2 hc2 Hb1 Hc1 N2 hcell
        go_wp2_with fail
        refine N3.out.mono ?_
        rintro e w3 ⟨A3, c3, rfl, hk3, hA3, hsl3, hs3, hc3⟩
        have Hb3 := Lib.hid (Hb2.out.keep (hc3.block _ Hb2.out.lt (by omega)))
        have Hc3 := Lib.hid (Hc2.out.then_ hc3)
        have hq0 : q.drop lits = [] := List.drop_eq_nil_of_le (by omega)
        rw [hq0] at hs3
        obtain ⟨A4, c4, hblk4, _⟩ := hs3.ex
        have k0 : w3.cell? ⟨S, 0, none⟩ = some (.slice A4 0 c4) := hblk4.cell 0
        have g0 := Hb3.out.cell 0
        have g1 := Hb3.out.cell 1
        have g2 := Hb3.out.cell 2
        have g3 := Hb3.out.cell 3
        have f0 := Hb3.out.frozen 0
        have f1 := Hb3.out.frozen 1
        have f2 := Hb3.out.frozen 2
        have f3 := Hb3.out.frozen 3
        simp at g0 g1 g2 g3
        have Hs3 := Lib.hid hs3
        have Hsl3 := Lib.hid hsl3
        clear hs3 hsl3 hblk4 hc3 N3 Hb2 Hc2 hq0
        go_wp2_with fail
        have E4 := set4 Hb3.out (.slice A3 lits c3) (.bool true) (.int .i64 0) (.int .i64 0)
        have y0 := E4.cell 0
        have y1 := E4.cell 1
        have y2 := E4.cell 2
        have y3 := E4.cell 3
        simp only [List.getElem?_toArray, List.getElem?_cons_zero, List.getElem?_cons_succ] at y0 y1 y2 y3
        have hend := seq_end (ls := q) hg hS Hc3.out Hs3.out (by have := Hsl3.out; rwa [List.take_of_length_le (by omega)] at this) h2 hk3 hA3 true 0 0
        generalize ((((w3.setCell ⟨g, 0, none⟩ (.slice A3 lits c3)).setCell ⟨g, 1, none⟩ (.bool true)).setCell ⟨g, 2, none⟩ (.int .i64 0)).setCell ⟨g, 3, none⟩ (.int .i64 0)) = W4 at *
        refine bodyPost_ret ?_ rfl hend
        simp [results, Try.results23]
        go_simp
      by_cases h3 : q.length = lits + 1
      · rw [Lz.next_one ha h3] at hn; cases hn
      have hd := Lz.drop_two (q := q) (k := lits) (by omega)
      cases hb : Lz.added (q.drop (lits + 2)) (t % 16) with
      | none => rw [Lz.next_more_none ha (by omega) hd hb] at hn; cases hn
      | some pr2 =>
        obtain ⟨many, q2⟩ := pr2
        rw [Lz.next_more ha (by omega) hd hb] at hn
        cases hn
set_option maxRecDepth 4000 in
set_option maxHeartbeats 4000000 in
theorem seq_more {w : World} {B S : Nat} {l ls r' : List Nat} {back many : Nat} (h : Src w B S l) (hn : Lz.next l = some (ls, some (back, many, r'))) :
    Calls Try.prog 23 #[.pointer (some ⟨S, 0, none⟩)] w (SeqR B S ls false (back : Int) ((many + 4 : Nat) : Int) r' w) := by
  cases l with
  | nil => cases hn
  | cons t r =>
    cases ha : Lz.added r (t / 16) with
    | none => rw [Lz.next_none ha] at hn; cases hn
    | some pr =>
      obtain ⟨lits, q⟩ := pr
      by_cases h1 : q.length < lits
      · rw [Lz.next_short ha h1] at hn; cases hn
      by_cases h2 : q.length = lits
      · rw [Lz.next_last ha h2] at hn; cases hn
      by_cases h3 : q.length = lits + 1
      · rw [Lz.next_one ha h3] at hn; cases hn
      have hd := Lz.drop_two (q := q) (k := lits) (by omega)
      cases hb2 : Lz.added (q.drop (lits + 2)) (t % 16) with
      | none => rw [Lz.next_more_none ha (by omega) hd hb2] at hn; cases hn
      | some pr2 =>
        obtain ⟨many2, q2⟩ := pr2
        rw [Lz.next_more ha (by omega) hd hb2] at hn
        injection hn with hn; injection hn with hn1 hn; injection hn with hn; injection hn with hn2 hn; injection hn with hn3 hn4
        subst hn1; subst hn2; subst hn3; subst hn4
        have Hb2' := Lib.hid hb2
        have Hd := Lib.hid hd
        clear hb2 hd
        have ht := h.lt t (List.mem_cons_self ..)
        obtain ⟨w0, h0⟩ : ∃ x, x = w.alloc (.cells #[.slice none 0 0, .bool false, .int .i64 0, .int .i64 0] 52) := ⟨_, rfl⟩
        have hS := h.lt_heap
        have e0 : w.alloc (.cells #[.slice none 0 0, .bool false, .int .i64 0, .int .i64 0] 52) = w0 := h0.symm
        have hs0 : Src w0 B S (t :: r) := h.keep (by rw [h0]; exact Below.heap_alloc _ _ _ hS) (by rw [h0]; exact (Below.refl _ _).alloc (Nat.le_trans h.bS (Nat.le_of_lt hS)) _)
        have hc0 : ChS S w w0 := by rw [h0]; exact (Chg.refl _ _).alloc _
        have hb0 : Blk w0 w.heap.size 52 #[.slice none 0 0, .bool false, .int .i64 0, .int .i64 0] := by rw [h0]; exact Blk.new _ _ _
        have N1 := Lib.hid (take1 hs0)
        have Hc0 := Lib.hid hc0
        have Hb0 := Lib.hid hb0
        have hBS := h.bS
        have hqlt : ∀ x ∈ q, x < 256 := fun x hx => h.lt x (List.mem_cons_of_mem _ (by rw [(Lz.added_len ha).2.2] at hx; exact List.mem_of_mem_drop hx))
        clear h h0 hs0 hc0 hb0
        generalize hg : w.heap.size = g at *
        go_enter Try.func23, Try.ntmps23
        go_wp2_with fail
        refine N1.out.mono ?_
        rintro e w1 ⟨b, o, c, rfl, hb, hcell, hs1, hc1⟩
        have N2 := Lib.hid (fun z hz => length_ok hs1 (s := t / 16) (by omega) ha z hz)
        have Hb1 := Lib.hid (Hb0.out.keep (hc1.block _ Hb0.out.lt (by omega)))
        have Hc1 := Lib.hid (Hc0.out.then_ hc1)
        clear hs1 hc1 Hb0 Hc0 N1
        go_wp2_with fail
        refine (N2.out _ (by omega)).mono ?_
        rintro e w2 ⟨rfl, hs2, hc2⟩
        have N3 := Lib.hid (take_ok hs2 lits lits rfl (by omega))
        have Hb2 := Lib.hid (Hb1.out.keep (hc2.block _ Hb1.out.lt (by omega)))
        have Hc2 := Lib.hid (Hc1.out.then_ hc2)
        clear hs2 hc2 Hb1 Hc1 N2 hcell
        go_wp2_with fail
        refine N3.out.mono ?_
        rintro e w3 ⟨A3, c3, rfl, hk3, hA3, hsl3, hs3, hc3⟩
        have Hb3 := Lib.hid (Hb2.out.keep (hc3.block _ Hb2.out.lt (by omega)))
        have Hc3 := Lib.hid (Hc2.out.then_ hc3)
        have hlb : many2 ≤ 15 + 255 * 100000 := by
          have := Lz.added_bound (fun x hx => hqlt x (List.mem_of_mem_drop hx)) Hb2'.out
          have h5 := hs3.len
          rw [List.length_drop] at this h5
          omega
        have hx0 := getB_lt hqlt lits
        have hx1 := getB_lt hqlt (lits + 1)
        rw [Hd.out] at hs3
        generalize q.getD lits 0 = x0 at *
        generalize q.getD (lits + 1) 0 = x1 at *
        have hne : (((x0 : Nat) :: x1 :: q.drop (lits + 2)).length == 0) = false := by simp
        obtain ⟨A4, c4, hblk4, _⟩ := hs3.ex
        have k0 : w3.cell? ⟨S, 0, none⟩ = some (.slice A4 (x0 :: x1 :: q.drop (lits + 2)).length c4) := hblk4.cell 0
        generalize hN : (x0 :: x1 :: q.drop (lits + 2)).length = N at *
        have hN2 : 2 ≤ N := by rw [← hN]; simp
        have hne' : ((N : Int) == 0) = false := by rw [beq_eq_false_iff_ne]; omega
        have N4 := Lib.hid (take2 hs3)
        have Hsl3 := Lib.hid hsl3
        clear hs3 hsl3 hblk4 hc3 N3 Hb2 Hc2 hN
        go_wp2_with fail
        refine N4.out.mono ?_
        rintro e w4 ⟨b4, o4, c4', rfl, hb4, y0, y1, hs4, hc4⟩
        have o8 := or8 hx0 hx1
        have a15 := and15b ht
        have hs4d : Src w4.drew B S (q.drop (lits + 2)) := hs4.keep rfl ⟨rfl, rfl, rfl, Nat.le_refl _, fun _ _ => rfl⟩
        have Hb4 := Lib.hid (Hb3.out.keep (hc4.block _ Hb3.out.lt (by omega)))
        have N5 := Lib.hid ((length_ok hs4d (s := t % 16) (by omega) Hb2'.out ((t : Int) % 16) (by omega)).mono fun e w' h => (by
          have hc : ChS S w4 w' := ((Chg.refl (fun b => b = S) w4).drew).then_ h.2.2
          have hbg := Hb4.out.keep (hc.block g Hb4.out.lt (by omega))
          exact ⟨h.1, hbg.cell 0, hbg.cell 1, hbg.cell 2, hbg.cell 3, hbg.frozen 0, hbg.frozen 1, hbg.frozen 2, hbg.frozen 3, h.2.1, hc, hc.mono fun _ e => .inl e⟩ : e = .returned (.int .i64 (many2 : Int)) ∧ w'.cell? ⟨g, 0, none⟩ = some (.slice none 0 0) ∧ w'.cell? ⟨g, 1, none⟩ = some (.bool false) ∧ w'.cell? ⟨g, 2, none⟩ = some (.int .i64 0) ∧ w'.cell? ⟨g, 3, none⟩ = some (.int .i64 0) ∧ w'.frozen? ⟨g, 0, none⟩ = false ∧ w'.frozen? ⟨g, 1, none⟩ = false ∧ w'.frozen? ⟨g, 2, none⟩ = false ∧ w'.frozen? ⟨g, 3, none⟩ = false ∧ Src w' B S q2 ∧ ChS S w4 w' ∧ Chg (fun b => b = S ∨ b = g) w4 w'))
        have Hc4 := Lib.hid (Hc3.out.then_ hc4)
        have Hsl4 := Lib.hid (Hsl3.out.below (Chg.below hc4 (B := B) (by have := Hb3.out.lt; omega) (fun i hi => by omega)))
        have Kp := Lib.hid (show ∀ w', Chg (fun b => b = S ∨ b = g) w4 w' → w'.cell? ⟨b4, o4, none⟩ = some (.int .u8 (x0 : Int)) ∧ w'.cell? ⟨b4, o4 + 1, none⟩ = some (.int .u8 (x1 : Int)) from fun w' h => by
          have hbl : w'.heap[b4]? = w4.heap[b4]? := h.block b4 (by have := Hb4.out.lt; omega) (by omega)
          exact ⟨(World.cell?_of_block hbl).trans y0, (World.cell?_of_block hbl).trans y1⟩)
        have hw4g := Hb4.out.lt
        have Kq := Lib.hid (fun w' (h : Chg (fun b => b = S ∨ b = g) w4 w') a b c d => set4_chg' (g := g) h (.inr rfl) a b c d)
        have hc5 : Chg (fun b => b = S ∨ b = g) w4 w4.drew := (Chg.refl _ _).drew
        have hw0 : IntKind.i64.wrap (x0 : Int) = (x0 : Int) := by rw [IntKind.wrap_i64]; omega
        have hw1 : IntKind.i64.wrap (x1 : Int) = (x1 : Int) := by rw [IntKind.wrap_i64]; omega
        have hw2 : IntKind.i64.wrap ((x1 : Int) * 256) = (x1 : Int) * 256 := by rw [IntKind.wrap_i64]; omega
        have hsum : IntKind.i64.wrap ((many2 : Int) + 4) = (many2 : Int) + 4 := by rw [IntKind.wrap_i64]; omega
        clear hs4 hs4d hc4 N4 Hb3 Hc3 Hsl3
        go_wp2_with fail
        go_region_held_law (fun w' => w'.cell? ⟨b4, o4, none⟩ = some (.int .u8 (x0 : Int)) ∧ w'.cell? ⟨b4, o4 + 1, none⟩ = some (.int .u8 (x1 : Int))) (first | exact Kp.out _ hc5 | exact Kp.out _ (Kq.out _ hc5 _ _ _ _)) (first
          | (go_at_call 29; ((with_reducible refine N5.out.mono ?_); rintro e w5 ⟨rfl, g0, g1, g2, g3, f0, f1, f2, f3, hs5, hcs5, hc5⟩)))
        go_wp2_with fail
        have Hb5 := Lib.hid (Hb4.out.keep (hcs5.block _ Hb4.out.lt (by omega)))
        have E4 := set4 Hb5.out (.slice A3 lits c3) (.bool false) (.int .i64 ((x0 : Int) + (x1 : Int) * 256)) (.int .i64 ((many2 : Int) + 4))
        have z0 := E4.cell 0
        have z1 := E4.cell 1
        have z2 := E4.cell 2
        have z3 := E4.cell 3
        simp only [List.getElem?_toArray, List.getElem?_cons_zero, List.getElem?_cons_succ] at z0 z1 z2 z3
        have hend := seq_end (ls := q.take lits) hg hS (Hc4.out.then_ hcs5) hs5 (Hsl4.out.below (Chg.below hcs5 (B := B) (by omega) (fun i hi => by omega))) (by rw [List.length_take]; omega) hk3 hA3 false ((x0 : Int) + (x1 : Int) * 256) ((many2 : Int) + 4)
        rw [show (((x0 + x1 * 256 : Nat)) : Int) = (x0 : Int) + (x1 : Int) * 256 by omega, show (((many2 + 4 : Nat)) : Int) = (many2 : Int) + 4 by omega]
        generalize ((((w5.setCell ⟨g, 0, none⟩ (.slice A3 lits c3)).setCell ⟨g, 1, none⟩ (.bool false)).setCell ⟨g, 2, none⟩ (.int .i64 ((x0 : Int) + (x1 : Int) * 256))).setCell ⟨g, 3, none⟩ (.int .i64 ((many2 : Int) + 4))) = W4 at *
        refine bodyPost_ret ?_ rfl hend
        simp [results, Try.results23]
        go_simp
end Go.Proofs.Ytpfhkbagapodoaa
