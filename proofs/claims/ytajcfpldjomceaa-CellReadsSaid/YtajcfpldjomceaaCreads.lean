/- CellReads' reading function: both readers side by side. -/
import Derived.Test.YtajcfpldjomceaaRefcell2
import Derived.Test.YtajcfpldjomceaaCback2
namespace Go.Proofs.Ytajcfpldjomceaa
open Go.RowKit Vint

/-- Reading a part off s: the error (0: none), and what is left. -/
def rstep (p : Part) (s : List Nat) : Int × List Nat := if p.d = 2 then (rdE p.n s, s.drop ((num s).2.1 + (num s).1)) else (((num s).2.2 : Int), s.drop (num s).2.1)
/-- Reading parts one behind another: the first error, and what is left there. -/
def rrun : List Part → List Nat → Int × List Nat
  | [], s => (0, s)
  | p :: r, s => if (rstep p s).1 = 0 then rrun r (rstep p s).2 else ((rstep p s).1, s)
theorem rrun_next {l : List Part} {j : Nat} {s : List Nat} (h : j < l.length) (h0 : (rstep l[j] s).1 = 0) : rrun (l.drop j) s = rrun (l.drop (j + 1)) (rstep l[j] s).2 := by
  rw [List.drop_eq_getElem_cons h, rrun, if_pos h0]
theorem rrun_stop {l : List Part} {j : Nat} {s : List Nat} (h : j < l.length) (h0 : (rstep l[j] s).1 ≠ 0) : rrun (l.drop j) s = ((rstep l[j] s).1, s) := by
  rw [List.drop_eq_getElem_cons h, rrun, if_neg h0]

/-- Where the function's variables lie. -/
structure Pl where
  K : Nat
  B : Nat
  R : Nat
  L : Nat
  p : Nat
  q : Nat
  V : Nat
  O : Nat
  M : Nat
structure Pl.ok (P : Pl) : Prop where
  kp : P.K ≤ P.p
  kq : P.K ≤ P.q
  kV : P.K ≤ P.V
  kO : P.K ≤ P.O
  kM : P.K ≤ P.M
  pB : P.p < P.B
  qB : P.q < P.B
  VB : P.V < P.B
  OB : P.O < P.B
  MB : P.M < P.B
/-- Both readers in front of the same bytes. -/
structure Rs (w : World) (P : Pl) (A Al : Option Addr) (c cl : Nat) (b : List Nat) (n : Nat) (a : Nat) : Prop where
  rd : Rd w P.B P.R P.L (b.drop a) 0
  m : Blk w P.M 38 (rcCells A b.length c a 0)
  lb : Blk w P.p 22 #[.slice Al n cl]
  bb : Blk w P.q 24 #[.slice A b.length c]
  v : Blk w P.V 36 #[.pointer (some ⟨P.M, 0, none⟩)]
  o : Blk w P.O 4 #[.bool true]
/-- What the function may store into. -/
def FP (P : Pl) : Nat → Prop := fun b => b = P.O ∨ b = P.M ∨ RL P.R P.L b
section
variable {w w' : World} {P : Pl} {A Al : Option Addr} {c cl n a : Nat} {b : List Nat}
theorem Rs.drewN (h : Rs w P A Al c cl b n a) (k : Nat) : Rs (w.drewN k) P A Al c cl b n a := ⟨h.rd.keep (F := fun _ => False) ((Chg.refl _ w).drewN k) (fun _ h => h.elim), h.m, h.lb, h.bb, h.v, h.o⟩
theorem Rs.drew (h : Rs w P A Al c cl b n a) : Rs w.drew P A Al c cl b n a := ⟨h.rd.keep (F := fun _ => False) (Chg.refl _ w).drew (fun _ h => h.elim), h.m, h.lb, h.bb, h.v, h.o⟩
theorem rs_apart (h : Rs w P A Al c cl b n a) : P.p ≠ P.O ∧ P.p ≠ P.M ∧ P.q ≠ P.O ∧ P.q ≠ P.M ∧ P.V ≠ P.O ∧ P.V ≠ P.M ∧ P.O ≠ P.M ∧ P.B ≤ P.R ∧ P.B ≤ P.L :=
  ⟨Blk.ne_ h.lb h.o (by decide), Blk.ne_ h.lb h.m (by decide), Blk.ne_ h.bb h.o (by decide), Blk.ne_ h.bb h.m (by decide), Blk.ne_ h.v h.o (by decide), Blk.ne_ h.v h.m (by decide), Blk.ne_ h.o h.m (by decide), h.rd.bR, h.rd.bL⟩
theorem q_left (h : Rs w P A Al c cl b n a) (ha : a ≤ b.length) (k : Nat) : Calls Try.prog 18 #[.pointer (some ⟨P.R, 0, none⟩)] (w.drewN k) fun e w' => e = .returned (.int .i64 ((b.length : Int) - (a : Int))) ∧ ∃ k', w' = w.drewN k' := by
  refine (rleft_any (h.drewN k).rd).mono ?_
  rintro e w' ⟨rfl, rfl⟩
  refine ⟨?_, k, rfl⟩
  rw [List.length_drop, show ((b.length - a : Nat) : Int) = (b.length : Int) - (a : Int) by omega]
end

/-- Bytes of the document's reader, rightly; with an error. -/
def RefG (A : Option Addr) (n c M a x k : Nat) (r : List Nat) (W : World) (e : Ending) (w' : World) : Prop :=
  ∃ A' c', e = .returned (.slice A' x c') ∧ w'.ownsRow W.heap.size 5 1 (.slice A' x c') x (byts r) ∧ Blk w' M 38 (rcCells A n c (a + k + x) 0) ∧ Chg (FM M) W w'
def RefX (A : Option Addr) (n c M : Nat) (z : Int) (W : World) (e : Ending) (w' : World) : Prop :=
  ∃ a' e' : Nat, e = .returned (.slice none 0 0) ∧ Blk w' M 38 (rcCells A n c a' e') ∧ z = (e' : Int) ∧ Chg (FM M) W w'
section
variable {w : World} {P : Pl} {A Al : Option Addr} {c cl n a : Nat} {b : List Nat}
theorem refG (h : Rs w P A Al c cl b n a) (hP : P.K ≤ P.M) (hsl : Sl w P.K A (byts b)) (hb : ∀ x ∈ b, x < 256) (ha : a ≤ b.length) (hbc : b.length ≤ c) (hA : A = none → c = 0) (hlen : b.length ≤ 2000) (most : Int) (h0 : rdE most (b.drop a) = 0) :
    Calls Try.prog 19 #[.pointer (some ⟨P.M, 0, none⟩), .int .i64 most] w.drew (RefG A b.length c P.M a (num (b.drop a)).1 (num (b.drop a)).2.1 (((b.drop a).drop (num (b.drop a)).2.1).take (num (b.drop a)).1) w) := by
  refine (refBytes_any A c P.M a most b hb ha hbc hA (by omega) w.drew h.drew.m ((hsl.below (w' := w.drew) (Below.refl _ _).drew).more hP)).mono ?_
  rintro e w' ⟨hc, ⟨_, A', c', rfl, hown, hm⟩ | ⟨hne, _⟩⟩
  · exact ⟨A', c', rfl, hown, hm, ⟨hc.os, hc.tape, hc.output, hc.size, hc.block⟩⟩
  · exact absurd h0 hne
theorem refX (h : Rs w P A Al c cl b n a) (hP : P.K ≤ P.M) (hsl : Sl w P.K A (byts b)) (hb : ∀ x ∈ b, x < 256) (ha : a ≤ b.length) (hbc : b.length ≤ c) (hA : A = none → c = 0) (hlen : b.length ≤ 2000) (most : Int) (h0 : rdE most (b.drop a) ≠ 0) :
    Calls Try.prog 19 #[.pointer (some ⟨P.M, 0, none⟩), .int .i64 most] w.drew (RefX A b.length c P.M (rdE most (b.drop a)) w) := by
  refine (refBytes_any A c P.M a most b hb ha hbc hA (by omega) w.drew h.drew.m ((hsl.below (w' := w.drew) (Below.refl _ _).drew).more hP)).mono ?_
  rintro e w' ⟨hc, ⟨he, _⟩ | ⟨hne, rfl, a', e', hm, hz⟩⟩
  · exact absurd he h0
  · exact ⟨a', e', rfl, hm, hz, ⟨hc.os, hc.tape, hc.output, hc.size, hc.block⟩⟩
/-- Bytes of the program's reader, told for the walk. -/
def GotM (B R L : Nat) (W : World) (s' r : List Nat) (n : Nat) (e : Ending) (w' : World) : Prop :=
  ∃ A c, e = .returned (.slice A n c) ∧ (convert 24 9 (.slice A n c)).run Try.prog w' = .ok (.string (bstr r)) w' ∧ Rd w' B R L s' 0 ∧ Chg (RL R L) W w'
theorem gotM {B R L : Nat} {s : List Nat} (h : Rd w B R L s 0) (most : Int) (h0 : rdE most s = 0) :
    Calls Try.prog 20 #[.pointer (some ⟨R, 0, none⟩), .int .i64 most] w.drew (GotM B R L w (s.drop ((num s).2.1 + (num s).1)) ((s.drop (num s).2.1).take (num s).1) (((s.drop (num s).2.1).take (num s).1)).length) := by
  refine (rbytes_ok (rd_drew h) most h0).mono ?_
  rintro e w' ⟨A, c, rfl, hown, hr, hc⟩
  exact ⟨A, c, rfl, conv_b (Sl.of_own hown), hr, ⟨hc.os, hc.tape, hc.output, hc.size, hc.block⟩⟩
theorem badM {B R L : Nat} {s : List Nat} (h : Rd w B R L s 0) (most : Int) (h0 : rdE most s ≠ 0) :
    Calls Try.prog 20 #[.pointer (some ⟨R, 0, none⟩), .int .i64 most] w.drew fun e w' => e = .panicked [{ v := errV (rdE most s), recovered := false }] ∧ Rd w' B R L s (rdE most s) ∧ Chg (RL R L) w w' := by
  refine (rbytes_bad (rd_drew h) most h0).mono ?_
  rintro e w' ⟨rfl, hr, hc⟩
  exact ⟨rfl, hr, ⟨hc.os, hc.tape, hc.output, hc.size, hc.block⟩⟩
theorem rdE_size {most : Int} {s : List Nat} (h0 : rdE most s = 0) : (num s).2.2 = 0 ∧ (num s).2.1 + (num s).1 ≤ s.length := by
  unfold rdE at h0
  by_cases hz : (num s).2.2 = 0
  · refine ⟨hz, ?_⟩
    rw [if_neg (by omega)] at h0
    by_cases hm : most < ((num s).1 : Int)
    · rw [if_pos hm] at h0; omega
    · rw [if_neg hm] at h0
      by_cases hs : s.length < (num s).2.1 + (num s).1
      · rw [if_pos hs] at h0; omega
      · omega
  · rw [if_pos hz] at h0; omega
end

/-- What the function does. -/
def ReadsP (P : Pl) (A : Option Addr) (c : Nat) (b : List Nat) (l : List Part) (w : World) (e : Ending) (w' : World) : Prop :=
  Chg (FP P) w w' ∧ Blk w' P.O 4 #[.bool true] ∧
    ((e = .returned (.tuple #[]) ∧ (rrun l b).1 = 0 ∧ ∃ a, a ≤ b.length ∧ (rrun l b).2 = b.drop a ∧ Rd w' P.B P.R P.L (b.drop a) 0 ∧ Blk w' P.M 38 (rcCells A b.length c a 0)) ∨
     (∃ k : Nat, k ≠ 0 ∧ e = .panicked [{ v := errV (k : Int), recovered := false }] ∧ (rrun l b).1 = (k : Int) ∧ ∃ a' s, Rd w' P.B P.R P.L s (k : Int) ∧ Blk w' P.M 38 (rcCells A b.length c a' k)))

set_option maxRecDepth 10000 in
set_option maxHeartbeats 4000000 in
theorem reads1_any {w : World} {P : Pl} {A Al : Option Addr} {c cl : Nat} {b : List Nat} {l : List Part} (hP : P.ok) (h : Rs w P A Al c cl b l.length 0) (hb : ∀ x ∈ b, x < 256) (hbc : b.length ≤ c) (hA : A = none → c = 0) (hblen : b.length ≤ 2000) (hlen : l.length ≤ 100)
    (hsl : Sl w P.K A (byts b)) (hl : PartsAt w P.K Al l) :
    Calls Try.prog 17 #[.pointer (some ⟨P.R, 0, none⟩), .pointer (some ⟨P.p, 0, none⟩), .pointer (some ⟨P.q, 0, none⟩), .pointer (some ⟨P.V, 0, none⟩), .pointer (some ⟨P.O, 0, none⟩)] w (ReadsP P A c b l w) := by
  obtain ⟨n1, n2, n3, n4, n5, n6, n7, n8, n9⟩ := rs_apart h
  obtain ⟨kp, kq, kV, kO, kM, pB, qB, VB, OB, MB⟩ := hP
  go_enter Try.func17, Try.ntmps17
  go_wp2_with fail
  go_loopw [6] (fun v wr => ∃ (j a : Nat), j ≤ l.length ∧ a ≤ b.length ∧ v = .int .i64 j ∧ rrun l b = rrun (l.drop j) (b.drop a) ∧ Rs wr P A Al c cl b l.length a ∧ Chg (FP P) w wr) (fun v _ => l.length - (intOf v).toNat)
  case atStart => exact ⟨0, 0, by omega, by omega, rfl, rfl, h, Chg.refl _ _⟩
  case round =>
    obtain ⟨j, a, hj, ha, rfl, hrun, hs, hc⟩ := hrel
    have cp : wr.cell? ⟨P.p, 0, none⟩ = some (.slice Al l.length cl) := cell_at hs.lb
    have hbel : Below P.K w wr := hc.below (by have := h.lb.lt; omega) (by rintro i (h | h | h | h) <;> omega)
    by_cases hlt : j < l.length
    · obtain ⟨b1, o1, rfl, hb1, x0, x1, _⟩ := part_cells (hl.below hbel) hlt
      have q1 : decide (j < l.length) = true := by simpa using hlt
      have cq : wr.cell? ⟨P.q, 0, none⟩ = some (.slice A b.length c) := cell_at hs.bb
      have cV : wr.cell? ⟨P.V, 0, none⟩ = some (.pointer (some ⟨P.M, 0, none⟩)) := cell_at hs.v
      have cM : wr.cell? ⟨P.M, 1, none⟩ = some (.int .i64 (a : Int)) := hs.m.cell 1
      have hsl1 := hsl.below hbel
      have Hs := Lib.hid hs
      have Hc := Lib.hid hc
      have Hrun := Lib.hid hrun
      have Hsl1 := Lib.hid hsl1
      have Hbel := Lib.hid hbel
      clear hs hc hrun hsl1 hbel h hsl hl
      by_cases hd : l[j].d = 2
      · have q2 : (l[j].d == 2) = true := by simpa using hd
        have Hst : Hid (rstep l[j] (b.drop a) = (rdE l[j].n (b.drop a), (b.drop a).drop ((num (b.drop a)).2.1 + (num (b.drop a)).1))) := Lib.hid (by unfold rstep; rw [if_pos hd])
        have Hnext := Lib.hid (fun h0 => rrun_next (l := l) (j := j) (s := b.drop a) hlt h0)
        have Hstop := Lib.hid (fun h0 => rrun_stop (l := l) (j := j) (s := b.drop a) hlt h0)
        generalize l[j] = x at *
        clear hd
        generalize x.d = d at *
        go_wp2_with fail
        go_quiet ((go_at_call 18; exact q_left Hs.out ha _))
        go_wp2_with fail
        have Hs1 := Lib.hid (Hs.out.drewN nq)
        have Hc1 := Lib.hid (Hc.out.drewN nq)
        have Hsl2 := Lib.hid (Hsl1.out.below (w' := wr.drewN nq) ⟨rfl, rfl, rfl, Nat.le_refl _, fun _ _ => rfl⟩)
        have y1 : (wr.drewN nq).cell? ⟨b1, o1 + j * 3 + 1, none⟩ = some (.int .i64 x.n) := x1
        have yp : (wr.drewN nq).cell? ⟨P.p, 0, none⟩ = some (.slice (some ⟨b1, o1, none⟩) l.length cl) := cp
        have yV : (wr.drewN nq).cell? ⟨P.V, 0, none⟩ = some (.pointer (some ⟨P.M, 0, none⟩)) := cV
        clear Hs Hc cp cq cV cM x0 x1 Hsl1 Hbel
        generalize wr.drewN nq = W1 at *
        have hbM : b1 ≠ P.M ∧ b1 ≠ P.O ∧ b1 ≠ P.R ∧ b1 ≠ P.L ∧ b1 < W1.heap.size := by have := Hs1.out.m.lt; omega
        obtain ⟨e1, e2, e3, e4, e5⟩ := hbM
        have keep : ∀ w', Chg (FM P.M) W1 w' → w'.cell? ⟨P.V, 0, none⟩ = some (.pointer (some ⟨P.M, 0, none⟩)) ∧ w'.cell? ⟨P.p, 0, none⟩ = some (.slice (some ⟨b1, o1, none⟩) l.length cl) ∧ w'.cell? ⟨b1, o1 + j * 3 + 1, none⟩ = some (.int .i64 x.n) := fun w' h =>
          ⟨(World.cell?_of_block (h.block P.V Hs1.out.v.lt n6)).trans yV, (World.cell?_of_block (h.block P.p Hs1.out.lb.lt n2)).trans yp, (World.cell?_of_block (h.block b1 e5 e1)).trans y1⟩
        have Kp := Lib.hid keep
        have hcm : Chg (FM P.M) W1 W1.drew := (Chg.refl _ W1).drew
        clear keep
        by_cases h0 : rdE x.n (b.drop a) = 0
        · have hsz := rdE_size h0
          rw [List.length_drop] at hsz
          have HN := Lib.hid (refG Hs1.out kM Hsl2.out hb ha hbc hA hblen x.n h0)
          have Hn := Lib.hid (show rrun l b = rrun (l.drop (j + 1)) (b.drop (a + ((num (b.drop a)).2.1 + (num (b.drop a)).1))) by
            rw [Hrun.out, Hnext.out (by rw [Hst.out]; exact h0), Hst.out, List.drop_drop])
          have H0 := Lib.hid h0
          clear h0 Hnext Hstop Hst Hrun
          go_region_held_law (fun w' => w'.cell? ⟨P.V, 0, none⟩ = some (.pointer (some ⟨P.M, 0, none⟩)) ∧ w'.cell? ⟨P.p, 0, none⟩ = some (.slice (some ⟨b1, o1, none⟩) l.length cl) ∧ w'.cell? ⟨b1, o1 + j * 3 + 1, none⟩ = some (.int .i64 x.n)) (exact Kp.out _ hcm) (first
            | (go_at_call 19; ((with_reducible refine HN.out.mono ?_); rintro e w' ⟨A2, c2, rfl, hown, hm2, hcm⟩)))
          all_goals
            obtain ⟨W2, hW2⟩ : ∃ W2, W2 = w' := ⟨_, rfl⟩
            subst hW2
            have hr2 : Rd W2 P.B P.R P.L (b.drop a) 0 := Hs1.out.rd.keep hcm (fun i (hi : i = P.M) => by rw [hi]; exact MB)
            have ho2 : Blk W2 P.O 4 #[.bool true] := Hs1.out.o.keep (hcm.block _ Hs1.out.o.lt n7)
            have hlb2 := Hs1.out.lb.keep (hcm.block _ Hs1.out.lb.lt n2)
            have hbb2 := Hs1.out.bb.keep (hcm.block _ Hs1.out.bb.lt n4)
            have hv2 := Hs1.out.v.keep (hcm.block _ Hs1.out.v.lt n6)
            have y2 : W2.cell? ⟨b1, o1 + j * 3 + 1, none⟩ = some (.int .i64 x.n) := (World.cell?_of_block (hcm.block b1 e5 e1)).trans y1
            have hRlt := hr2.last.lt
            obtain ⟨_, _, hRb, _⟩ := Hs1.out.rd.ex
            have hR1 := hRb.lt
            have hL1 := Hs1.out.rd.last.lt
            have hgm := gotM hr2 x.n H0.out
            have hrl : (((b.drop a).drop (num (b.drop a)).2.1).take (num (b.drop a)).1).length = (num (b.drop a)).1 := by rw [List.length_take, List.length_drop, List.length_drop]; omega
            rw [hrl] at hgm
            simp only [List.drop_drop] at hgm hrl hown
            have HG := Lib.hid hgm
            have Hown := Lib.hid hown
            have Hm2 := Lib.hid hm2
            have Hcm := Lib.hid hcm
            have Hrl := Lib.hid hrl
            clear hgm hown hm2 hrl HN
            generalize (b.drop (a + (num (b.drop a)).2.1)).take (num (b.drop a)).1 = r at *
            generalize (num (b.drop a)).1 = x' at *
            generalize (num (b.drop a)).2.1 = k at *
            have keep2 : ∀ w', Chg (RL P.R P.L) W2 w' → w'.cell? ⟨P.p, 0, none⟩ = some (.slice (some ⟨b1, o1, none⟩) l.length cl) ∧ w'.cell? ⟨b1, o1 + j * 3 + 1, none⟩ = some (.int .i64 x.n) ∧ w'.cell? ⟨P.O, 0, none⟩ = some (.bool true) ∧ w'.frozen? ⟨P.O, 0, none⟩ = false ∧ (convert 24 9 (.slice A2 x' c2)).run Try.prog w' = .ok (.string (bstr r)) w' := fun w' h =>
              ⟨(World.cell?_of_block (h.block P.p hlb2.lt (by rintro (h | h) <;> omega))).trans (hlb2.cell 0), (World.cell?_of_block (h.block b1 (Nat.lt_of_lt_of_le e5 Hcm.out.size) (by rintro (h | h) <;> omega))).trans y2, (ho2.keep (h.block P.O ho2.lt (by rintro (h | h) <;> omega))).cell 0, (ho2.keep (h.block P.O ho2.lt (by rintro (h | h) <;> omega))).frozen 0, by
                have h5 := conv_b (cap := c2) (Sl.of_own (own_keep Hown.out fun i hi hlt => h.block i hlt (by have := (Hown.out.lt i hi).1; rintro (h | h) <;> omega)))
                rwa [Hrl.out] at h5⟩
            have keeps : ∀ w', Chg (RL P.R P.L) W2 w' → (w'.setCell ⟨P.O, 0, none⟩ (.bool true)).cell? ⟨P.p, 0, none⟩ = some (.slice (some ⟨b1, o1, none⟩) l.length cl) ∧ (w'.setCell ⟨P.O, 0, none⟩ (.bool true)).cell? ⟨b1, o1 + j * 3 + 1, none⟩ = some (.int .i64 x.n) ∧ (w'.setCell ⟨P.O, 0, none⟩ (.bool true)).cell? ⟨P.O, 0, none⟩ = some (.bool true) ∧ (w'.setCell ⟨P.O, 0, none⟩ (.bool true)).frozen? ⟨P.O, 0, none⟩ = false ∧ (convert 24 9 (.slice A2 x' c2)).run Try.prog (w'.setCell ⟨P.O, 0, none⟩ (.bool true)) = .ok (.string (bstr r)) (w'.setCell ⟨P.O, 0, none⟩ (.bool true)) := fun w' h => by
              obtain ⟨k1, k2, _, _, _⟩ := keep2 w' h
              have hs := (ho2.keep (h.block P.O ho2.lt (by rintro (h | h) <;> omega))).set_ 0 (.bool true)
              have hO1 := Hs1.out.o.lt
              refine ⟨(World.cell?_of_block (Below.heap_setCell w' ⟨P.O, 0, none⟩ _ P.p n1)).trans k1, (World.cell?_of_block (Below.heap_setCell w' ⟨P.O, 0, none⟩ _ b1 e2)).trans k2, hs.cell 0, hs.frozen 0, ?_⟩
              have h5 := conv_b (cap := c2) (Sl.of_own (own_far (own_keep Hown.out fun i hi hlt => h.block i hlt (by have := (Hown.out.lt i hi).1; rintro (h | h) <;> omega)) (p := ⟨P.O, 0, none⟩) (fun hk => by have := (Hown.out.lt P.O hk).1; omega) (.bool true)))
              rwa [Hrl.out] at h5
            have Kp2 := Lib.hid keep2
            have Ks2 := Lib.hid keeps
            have hcr : Chg (RL P.R P.L) W2 W2.drew := (Chg.refl _ W2).drew
            have Ho2 := Lib.hid ho2
            have Hlb2 := Lib.hid hlb2
            have Hbb2 := Lib.hid hbb2
            have Hv2 := Lib.hid hv2
            clear keep2 keeps ho2 hlb2 hbb2 hv2 hr2 y1 y2 yp yV Kp Hs1
            go_wp2_with fail
            go_region_held_law (fun w' => w'.cell? ⟨P.p, 0, none⟩ = some (.slice (some ⟨b1, o1, none⟩) l.length cl) ∧ w'.cell? ⟨b1, o1 + j * 3 + 1, none⟩ = some (.int .i64 x.n) ∧ w'.cell? ⟨P.O, 0, none⟩ = some (.bool true) ∧ w'.frozen? ⟨P.O, 0, none⟩ = false ∧ (convert 24 9 (.slice A2 x' c2)).run Try.prog w' = .ok (.string (bstr r)) w') (first | exact Kp2.out _ hcr | exact Ks2.out _ hcr) (first
              | (go_at_call 20; ((with_reducible refine HG.out.mono ?_); rintro e w' ⟨A3, c3, rfl, hcv, hr3, hcr⟩)))
            all_goals
              go_wp2_with fail
              have ho3 := Ho2.out.keep (hcr.block _ Ho2.out.lt (by rintro (h | h) <;> omega))
              have hm3 := Hm2.out.keep (hcr.block _ Hm2.out.lt (by rintro (h | h) <;> omega))
              have hlb3 := Hlb2.out.keep (hcr.block _ Hlb2.out.lt (by rintro (h | h) <;> omega))
              have hbb3 := Hbb2.out.keep (hcr.block _ Hbb2.out.lt (by rintro (h | h) <;> omega))
              have hv3 := Hv2.out.keep (hcr.block _ Hv2.out.lt (by rintro (h | h) <;> omega))
              rw [Nat.add_assoc] at hm3
              have hcx : Chg (fun b => b = P.O) w' (w'.setCell ⟨P.O, 0, none⟩ (.bool true)) := (Chg.refl (fun b => b = P.O) w').setCell (p := ⟨P.O, 0, none⟩) (.inl rfl) _
              go_roundw
              case rel => exact ⟨j + 1, a + (k + x'), by omega, by omega, by go_num, Hn.out, ⟨hr3.keep hcx (fun b hb => by omega), hm3.far (p := ⟨P.O, 0, none⟩) (by simpa using n7) (.bool true), hlb3.far (p := ⟨P.O, 0, none⟩) (by simpa using Ne.symm n1) (.bool true), hbb3.far (p := ⟨P.O, 0, none⟩) (by simpa using Ne.symm n3) (.bool true), hv3.far (p := ⟨P.O, 0, none⟩) (by simpa using Ne.symm n5) (.bool true), by simpa using ho3.set_ 0 (.bool true)⟩, ((Hc1.out.then_ (Hcm.out.mono fun _ h => .inr (.inl h))).then_ (hcr.mono fun _ h => .inr (.inr h))).then_ (hcx.mono fun _ h => .inl h)⟩
              case measure => simp [intOf]; omega
        · have HN := Lib.hid (refX Hs1.out kM Hsl2.out hb ha hbc hA hblen x.n h0)
          have Hn := Lib.hid (show (rrun l b).1 = rdE x.n (b.drop a) by
            rw [Hrun.out, Hstop.out (by rw [Hst.out]; exact h0), Hst.out])
          have H0 := Lib.hid h0
          have hz0 : ∀ w, (convert 24 9 (.slice none 0 0)).run Try.prog w = .ok (.string (bstr [])) w := fun w => conv_b (w := w) (B := 0) (cap := 0) (l := []) (.inl rfl)
          clear h0 Hnext Hstop Hst Hrun
          go_region_held_law (fun w' => w'.cell? ⟨P.V, 0, none⟩ = some (.pointer (some ⟨P.M, 0, none⟩)) ∧ w'.cell? ⟨P.p, 0, none⟩ = some (.slice (some ⟨b1, o1, none⟩) l.length cl) ∧ w'.cell? ⟨b1, o1 + j * 3 + 1, none⟩ = some (.int .i64 x.n)) (exact Kp.out _ hcm) (first
            | (go_at_call 19; ((with_reducible refine HN.out.mono ?_); rintro e w' ⟨a', z, rfl, hm2, hz, hcm⟩)))
          all_goals
            obtain ⟨W2, hW2⟩ : ∃ W2, W2 = w' := ⟨_, rfl⟩
            subst hW2
            have hr2 : Rd W2 P.B P.R P.L (b.drop a) 0 := Hs1.out.rd.keep hcm (fun i (hi : i = P.M) => by rw [hi]; exact MB)
            have ho2 : Blk W2 P.O 4 #[.bool true] := Hs1.out.o.keep (hcm.block _ Hs1.out.o.lt n7)
            obtain ⟨k1, k2, k3⟩ := Kp.out W2 hcm
            have hgm := badM hr2 x.n H0.out
            have hzz : z ≠ 0 := fun h => by
              rw [h] at hz
              exact H0.out hz
            have Hn2 : Hid ((rrun l b).1 = (z : Int)) := Lib.hid (Hn.out.trans hz)
            rw [hz] at hgm
            have HG := Lib.hid hgm
            have Hm2 := Lib.hid hm2
            have Hcm := Lib.hid hcm
            have Ho2 := Lib.hid ho2
            clear hgm hm2 HN hz ho2 hr2 y1 yp yV Kp Hs1
            go_wp2_with fail
            go_region_with (first
              | (go_at_call 20; ((with_reducible refine HG.out.mono ?_); rintro e w3 ⟨rfl, hr3, hc3⟩; refine panic_here (P := Try.prog) w3 ⟨rfl, (Hc1.out.then_ (Hcm.out.mono fun _ h => .inr (.inl h))).then_ (hc3.mono fun _ h => .inr (.inr h)), Ho2.out.keep (hc3.block _ Ho2.out.lt (by rintro (h | h) <;> omega)), .inr ⟨z, hzz, rfl, Hn2.out, a', _, hr3, Hm2.out.keep (hc3.block _ Hm2.out.lt (by rintro (h | h) <;> omega))⟩⟩ ?_)))
            all_goals trivial
      · have q2 : (l[j].d == 2) = false := by simpa using hd
        have Hst : Hid (rstep l[j] (b.drop a) = (((num (b.drop a)).2.2 : Int), (b.drop a).drop (num (b.drop a)).2.1)) := Lib.hid (by unfold rstep; rw [if_neg hd])
        have Hnext := Lib.hid (fun h0 => rrun_next (l := l) (j := j) (s := b.drop a) hlt h0)
        have Hstop := Lib.hid (fun h0 => rrun_stop (l := l) (j := j) (s := b.drop a) hlt h0)
        generalize l[j] = x at *
        clear hd
        generalize x.d = d at *
        go_wp2_with fail
        go_quiet ((go_at_call 18; exact q_left Hs.out ha _))
        go_wp2_with fail
        have N := Lib.hid (refNum_any A c P.M a b hb ha (by omega) _ (Hs.out.drewN nq).m ((Hsl1.out.below (w' := wr.drewN nq) ⟨rfl, rfl, rfl, Nat.le_refl _, fun _ _ => rfl⟩).more kM))
        have Hs1 := Lib.hid (Hs.out.drewN nq)
        have Hc1 := Lib.hid (Hc.out.drewN nq)
        clear Hs Hc cp cq cV cM x0 x1
        generalize wr.drewN nq = W1 at *
        refine N.out.mono ?_
        rintro e w2 ⟨rfl, ⟨a', hm2, ha'⟩, hc2⟩
        have hr2 : Rd w2 P.B P.R P.L (b.drop a) 0 := Hs1.out.rd.keep hc2 (fun i hi => by rw [hi]; exact MB)
        have ho2 : Blk w2 P.O 4 #[.bool true] := Hs1.out.o.keep (hc2.block _ Hs1.out.o.lt n7)
        have hlb2 := Hs1.out.lb.keep (hc2.block _ Hs1.out.lb.lt n2)
        have hbb2 := Hs1.out.bb.keep (hc2.block _ Hs1.out.bb.lt n4)
        have hv2 := Hs1.out.v.keep (hc2.block _ Hs1.out.v.lt n6)
        by_cases h0 : (num (b.drop a)).2.2 = 0
        · have ha2 := ha' h0
          subst ha2
          have hk := (num_size h0).2
          rw [List.length_drop] at hk
          have c3 := rnum_ok hr2 h0
          rw [List.drop_drop] at c3
          have C3 := Lib.hid c3
          have Hn := Lib.hid (show rrun l b = rrun (l.drop (j + 1)) (b.drop (a + (num (b.drop a)).2.1)) by
            rw [Hrun.out, Hnext.out (by rw [Hst.out]; show ((num (b.drop a)).2.2 : Int) = 0; omega), Hst.out, List.drop_drop])
          rw [h0] at hm2
          have Hm2 := Lib.hid hm2
          have Ho2 := Lib.hid ho2
          have Hlb2 := Lib.hid hlb2
          have Hbb2 := Lib.hid hbb2
          have Hv2 := Lib.hid hv2
          have Hc2 := Lib.hid hc2
          clear c3 h0 ha' hm2 ho2 hlb2 hbb2 hv2 hc2 hr2 N Hs1 Hnext Hstop Hst Hrun
          generalize (num (b.drop a)).1 = x' at *
          generalize (num (b.drop a)).2.1 = k at *
          go_wp2_with fail
          refine C3.out.mono ?_
          rintro e w3 ⟨rfl, hr3, hc3⟩
          have ho3 := Ho2.out.keep (hc3.block _ Ho2.out.lt (by rintro (h | h) <;> omega))
          have hm3 := Hm2.out.keep (hc3.block _ Hm2.out.lt (by rintro (h | h) <;> omega))
          have hlb3 := Hlb2.out.keep (hc3.block _ Hlb2.out.lt (by rintro (h | h) <;> omega))
          have hbb3 := Hbb2.out.keep (hc3.block _ Hbb2.out.lt (by rintro (h | h) <;> omega))
          have hv3 := Hv2.out.keep (hc3.block _ Hv2.out.lt (by rintro (h | h) <;> omega))
          have co := cell_at ho3
          have fo := ho3.frozen 0
          have Hr3 := Lib.hid hr3
          have Ho3 := Lib.hid ho3
          have Hm3 := Lib.hid (hm3.far (p := ⟨P.O, 0, none⟩) (by simpa using n7) (.bool true))
          have Hlb3 := Lib.hid (hlb3.far (p := ⟨P.O, 0, none⟩) (by simpa using Ne.symm n1) (.bool true))
          have Hbb3 := Lib.hid (hbb3.far (p := ⟨P.O, 0, none⟩) (by simpa using Ne.symm n3) (.bool true))
          have Hv3 := Lib.hid (hv3.far (p := ⟨P.O, 0, none⟩) (by simpa using Ne.symm n5) (.bool true))
          have Hc3 := Lib.hid hc3
          clear hr3 ho3 hm3 hlb3 hbb3 hv3 hc3 C3
          go_wp2_with fail
          have hcx : Chg (fun b => b = P.O) w3 (w3.setCell ⟨P.O, 0, none⟩ (.bool true)) := (Chg.refl (fun b => b = P.O) w3).setCell (p := ⟨P.O, 0, none⟩) (.inl rfl) _
          go_roundw
          case rel => exact ⟨j + 1, a + k, by omega, by omega, by go_num, Hn.out, ⟨Hr3.out.keep hcx (fun b hb => by omega), Hm3.out, Hlb3.out, Hbb3.out, Hv3.out, by simpa using Ho3.out.set_ 0 (.bool true)⟩, ((Hc1.out.then_ (Hc2.out.mono fun _ h => .inr (.inl h))).then_ (Hc3.out.mono fun _ h => .inr (.inr h))).then_ (hcx.mono fun _ h => .inl h)⟩
          case measure => simp [intOf]; omega
        · have C3 := Lib.hid (rnum_bad hr2 h0)
          have Hn := Lib.hid (show (rrun l b).1 = ((num (b.drop a)).2.2 : Int) by
            rw [Hrun.out, Hstop.out (by rw [Hst.out]; show ((num (b.drop a)).2.2 : Int) ≠ 0; omega), Hst.out])
          have Hm2 := Lib.hid hm2
          have Ho2 := Lib.hid ho2
          have Hc2 := Lib.hid hc2
          clear ha' hm2 ho2 hlb2 hbb2 hv2 hc2 hr2 N Hs1 Hnext Hstop Hst Hrun
          generalize (num (b.drop a)).2.2 = z at *
          go_wp2_with fail
          refine C3.out.mono ?_
          rintro e w3 ⟨rfl, hr3, hc3⟩
          have ho3 := Ho2.out.keep (hc3.block _ Ho2.out.lt (by rintro (h | h) <;> omega))
          have hm3 := Hm2.out.keep (hc3.block _ Hm2.out.lt (by rintro (h | h) <;> omega))
          go_wp2_with fail
          exact ⟨rfl, (Hc1.out.then_ (Hc2.out.mono fun _ h => .inr (.inl h))).then_ (hc3.mono fun _ h => .inr (.inr h)), ho3, .inr ⟨z, h0, rfl, Hn.out, a', _, hr3, hm3⟩⟩
    · have hjl : j = l.length := by omega
      subst hjl
      have q1 : decide (l.length < l.length) = false := by simp
      rw [List.drop_length] at hrun
      have Hs := Lib.hid hs
      have Hc := Lib.hid hc
      have Hrun := Lib.hid hrun
      clear hs hc hrun h hlt hj hbel hsl hl
      go_wp2_with fail
      refine bodyPost_end (results_none rfl _ _ _) rfl ?_
      exact ⟨Hc.out, Hs.out.o, .inl ⟨rfl, by rw [Hrun.out]; rfl, a, ha, by rw [Hrun.out]; rfl, Hs.out.rd, Hs.out.m⟩⟩
end Go.Proofs.Ytajcfpldjomceaa
