/- The program's reader: what its methods do. -/
import Derived.Test.YtdfelkkibolheaaBclone
import Derived.Test.YtdfelkkibolheaaRnum
import Derived.Test.YtdfelkkibolheaaLaw
import Derived.Recover
import Derived.Laws.Pointers
namespace Go.Proofs.Ytdfelkkibolheaa
open Go.RowKit Vint

/-- Bytes in a block that is no older than B. -/
def Data (w : World) (B : Nat) (A : Option Addr) (l : List Nat) : Prop :=
  l = [] ∨ ∃ b o cur, A = some ⟨b, o, none⟩ ∧ B ≤ b ∧ Blk w b 5 cur ∧ ∀ i (h : i < l.length), cur[o + i]? = some (.int .u8 (l[i] : Int))
section
variable {w w' : World} {B : Nat} {A : Option Addr} {l : List Nat}
theorem Data.sl (h : Data w B A l) : Sl w w.heap.size A (byts l) := by
  rcases h with rfl | ⟨b, o, cur, e, hB, hblk, hc⟩
  · exact .inl rfl
  · refine .inr ⟨b, o, e, hblk.lt, fun i hi => ?_⟩
    have hi' : i < l.length := by simpa [byts] using hi
    rw [hblk.cell, hc i hi']
    simp [byts]
theorem Data.of_own {c n : Nat} (h : w.ownsRow B 5 1 (.slice A n c) n (byts l)) (hn : n = l.length) : Data w B A l := by
  rcases h.2 with ⟨h', h0⟩ | ⟨g, cap, cur, h', hB, hg, hnc, _, hcs, htake⟩
  · exact .inl (List.eq_nil_of_length_eq_zero (by omega))
  · injection h' with hA _ _
    refine .inr ⟨g, 0, cur, hA, hB, hg, fun i hi => ?_⟩
    have : (cur.toList.take (n * 1))[i]? = some (.int .u8 (l[i] : Int)) := by rw [htake]; simp [byts, List.getElem?_eq_getElem hi]
    rw [List.getElem?_take, if_pos (by omega)] at this
    simpa using this
theorem Data.drop (h : Data w B A l) {c k : Nat} (hc : l.length ≤ c) : Data w B (cutA A c k) (l.drop k) := by
  rcases h with rfl | ⟨b, o, cur, e, hB, hblk, hcell⟩
  · exact .inl (by simp)
  · by_cases hk : l.length ≤ k
    · exact .inl (List.drop_eq_nil_of_le hk)
    · refine .inr ⟨b, o + k, cur, ?_, hB, hblk, fun i hi => ?_⟩
      · unfold cutA
        rw [if_neg (by omega), e]
        simp [Addr.add_lit]
      · have : k + i < l.length := by simp at hi; omega
        have := hcell (k + i) this
        rw [Nat.add_assoc, this]; simp
theorem Data.keep (h : Data w B A l) (hk : ∀ b, b < w.heap.size → (∀ cur, Blk w b 5 cur → w'.heap[b]? = w.heap[b]?)) : Data w' B A l := by
  rcases h with rfl | ⟨b, o, cur, e, hB, hblk, hcell⟩
  · exact .inl rfl
  · exact .inr ⟨b, o, cur, e, hB, hblk.keep (hk b hblk.lt cur hblk), hcell⟩
end

/-- Block R is a reader in front of the bytes l, block L is where it tells how its last call ended; all is no older than B. -/
structure Rd (w : World) (B R L : Nat) (l : List Nat) (e : Int) : Prop where
  bR : B ≤ R
  bL : B ≤ L
  byte : ∀ x ∈ l, x < 256
  len : l.length ≤ 1000000000
  last : Blk w L 39 #[.int .i64 e]
  ex : ∃ A c, Blk w R 93 #[.slice A l.length c, .pointer (some ⟨L, 0, none⟩)] ∧ l.length ≤ c ∧ (A = none → c = 0) ∧ Data w B A l
/-- The blocks that a reader's methods store into. -/
def RL (R L : Nat) : Nat → Prop := fun b => b = R ∨ b = L
section
variable {w w' : World} {B R L : Nat} {l : List Nat} {e : Int}
theorem Rd.keep (h : Rd w B R L l e) {F : Nat → Prop} (hc : Chg F w w') (hF : ∀ b, F b → b < B) : Rd w' B R L l e := by
  obtain ⟨bR, bL, hb, hl, hlast, A, c, hblk, hlc, hA, hd⟩ := h
  refine ⟨bR, bL, hb, hl, hlast.keep (hc.block L hlast.lt fun h => ?_), A, c, hblk.keep (hc.block R hblk.lt fun h => ?_), hlc, hA, ?_⟩
  · have := hF L h; omega
  · have := hF R h; omega
  · rcases hd with rfl | ⟨b, o, cur, e, hB, hbb, hcell⟩
    · exact .inl rfl
    · exact .inr ⟨b, o, cur, e, hB, hbb.keep (hc.block b hbb.lt fun h => by have := hF b h; omega), hcell⟩
theorem Rd.ne_ (h : Rd w B R L l e) : R ≠ L := by
  obtain ⟨_, _, _, _, hlast, A, c, hblk, _⟩ := h
  exact Blk.ne_ hblk hlast (by decide)
/-- The store of how a call ended. -/
theorem Rd.end_ (h : Rd w B R L l e) (e' : Int) : Rd (w.setCell ⟨L, 0, none⟩ (.int .i64 e')) B R L l e' := by
  have hne := h.ne_
  obtain ⟨bR, bL, hb, hl, hlast, A, c, hblk, hlc, hA, hd⟩ := h
  refine ⟨bR, bL, hb, hl, ?_, A, c, hblk.far (by simpa using hne.symm) _, hlc, hA, hd.keep fun b _ cur hb => ?_⟩
  · have := hlast.set_ 0 (.int .i64 e')
    simpa using this
  · exact Below.heap_setCell _ _ _ _ (by simpa using Blk.ne_ hb hlast (by decide))
/-- The store of what is left. -/
theorem Rd.cut (h : Rd w B R L l e) {k c : Nat} {A : Option Addr} (hA : A = none → c = 0) (hc : (l.drop k).length ≤ c) (hd : Data w B A (l.drop k)) : Rd (w.setCell ⟨R, 0, none⟩ (.slice A (l.drop k).length c)) B R L (l.drop k) e := by
  have hne := h.ne_
  obtain ⟨bR, bL, hb, hl, hlast, A0, c0, hblk, _⟩ := h
  refine ⟨bR, bL, fun x hx => hb x (List.mem_of_mem_drop hx), by rw [List.length_drop]; omega, hlast.far (by simpa using hne) _, A, c, ?_, hc, hA, hd.keep fun b _ cur hb => ?_⟩
  · have := hblk.set_ 0 (.slice A (l.drop k).length c)
    simpa using this
  · exact Below.heap_setCell _ _ _ _ (by simpa using Blk.ne_ hb hblk (by decide))
end

set_option maxHeartbeats 400000 in
theorem rend_ok {w : World} {B R L : Nat} {l : List Nat} {e : Int} (h : Rd w B R L l e) :
    Calls Try.prog 58 #[.pointer (some ⟨R, 0, none⟩), .int .i64 0] w fun e' w' => e' = .returned (.tuple #[]) ∧ w' = w.setCell ⟨L, 0, none⟩ (.int .i64 0) := by
  obtain ⟨_, _, _, _, hlast, A, c, hblk, _⟩ := h
  have c1 : w.cell? ⟨R, 1, none⟩ = some (.pointer (some ⟨L, 0, none⟩)) := hblk.cell 1
  have c2 : w.cell? ⟨L, 0, none⟩ = some (.int .i64 e) := hlast.cell 0
  have f2 := hlast.frozen 0
  clear hlast hblk
  go_enter Try.func58, Try.ntmps58
  go_wp2_with fail
  refine bodyPost_end (results_none rfl _ _ _) rfl ?_
  exact ⟨rfl, rfl⟩
set_option maxHeartbeats 400000 in
theorem rend_bad {w : World} {B R L : Nat} {l : List Nat} {e : Int} (h : Rd w B R L l e) (k : Int) (hk : k ≠ 0) :
    Calls Try.prog 58 #[.pointer (some ⟨R, 0, none⟩), .int .i64 k] w fun e' w' => e' = .panicked [{ v := .iface 39 (.int .i64 k), recovered := false }] ∧ w' = w.setCell ⟨L, 0, none⟩ (.int .i64 k) := by
  obtain ⟨_, _, _, _, hlast, A, c, hblk, _⟩ := h
  have c1 : w.cell? ⟨R, 1, none⟩ = some (.pointer (some ⟨L, 0, none⟩)) := hblk.cell 1
  have c2 : w.cell? ⟨L, 0, none⟩ = some (.int .i64 e) := hlast.cell 0
  have f2 := hlast.frozen 0
  have q : (k != 0) = true := by simpa using hk
  clear hlast hblk hk
  go_enter Try.func58, Try.ntmps58
  go_wp2_with fail
  exact ⟨rfl, rfl, rfl⟩

theorem rl_L {w : World} {B R L : Nat} {l : List Nat} {e : Int} (_ : Rd w B R L l e) (v : Value) : Chg (RL R L) w (w.setCell ⟨L, 0, none⟩ v) := (Chg.refl _ w).setCell (.inl (.inr rfl)) v
theorem num_size {l : List Nat} (h0 : (num l).2.2 = 0) : 0 < (num l).2.1 ∧ (num l).2.1 ≤ l.length := by
  have h := numF_size (r := 4) (k := 0) (x := 0) (l := l) h0
  rw [Nat.zero_add] at h
  exact ⟨h.1, h.2.1⟩

set_option maxHeartbeats 1000000 in
theorem rnum_ok {w : World} {B R L : Nat} {l : List Nat} {e : Int} (h : Rd w B R L l e) (h0 : (num l).2.2 = 0) :
    Calls Try.prog 28 #[.pointer (some ⟨R, 0, none⟩)] w fun e' w' => e' = .returned (.int .i64 ((num l).1 : Int)) ∧ Rd w' B R L (l.drop (num l).2.1) 0 ∧ Chg (RL R L) w w' := by
  have hk := (num_size h0).2
  have h1 := h.end_ 0
  have hc1 := rl_L h (.int .i64 0)
  have h' := h
  obtain ⟨_, _, hb, hl, hlast, A, c, hblk, hlc, hA, hd⟩ := h'
  have c0 : w.cell? ⟨R, 0, none⟩ = some (.slice A l.length c) := hblk.cell 0
  have cn := Lib.hid (number_any A c l hb w hd.sl (by omega))
  have ce := Lib.hid (rend_ok h)
  have hblk1 : Blk (w.setCell ⟨L, 0, none⟩ (.int .i64 0)) R 93 #[.slice A l.length c, .pointer (some ⟨L, 0, none⟩)] := hblk.far (by simpa using h.ne_.symm) _
  have d0 : (w.setCell ⟨L, 0, none⟩ (.int .i64 0)).cell? ⟨R, 0, none⟩ = some (.slice A l.length c) := hblk1.cell 0
  have f0 := hblk1.frozen 0
  have hd1 : Data (w.setCell ⟨L, 0, none⟩ (.int .i64 0)) B A l := hd.keep fun b _ cur hb => Below.heap_setCell _ _ _ _ (by simpa using Blk.ne_ hb hlast (by decide))
  obtain ⟨i0, hi0, _, hs0, _⟩ := byte_parts (P := Try.prog) (e := 5) (by kernel_rfl)
  have cut := run_slice_from Try.underlying24 hi0 hs0 A l.length c (num l).2.1 hk
  have H1 := Lib.hid h1
  have Hc := Lib.hid hc1
  have Hd := Lib.hid (hd1.drop (k := (num l).2.1) hlc)
  have HA := Lib.hid (show cutA A c (num l).2.1 = none → c - (num l).2.1 = 0 by
    unfold cutA
    by_cases hck : c = (num l).2.1
    · omega
    · rw [if_neg hck]; intro hh; have := hA (by simpa using hh); omega)
  generalize hW : w.setCell ⟨L, 0, none⟩ (.int .i64 0) = W at *
  clear h h1 hc1 hb hlast hblk hblk1 hd hd1 hW
  generalize hn : num l = p at *
  obtain ⟨x, k, z⟩ := p
  simp only at h0 hk cut Hd HA ⊢
  subst h0
  go_enter Try.func28, Try.ntmps28
  go_wp2_with fail
  refine cn.out.mono ?_
  rintro e' w' ⟨rfl, rfl⟩
  unfold numV
  go_wp2_with fail
  refine ce.out.mono ?_
  rintro e' w' ⟨rfl, rfl⟩
  go_wp2_with fail
  go_ret
  have hcut := H1.out.cut (k := k) HA.out (by rw [List.length_drop]; omega) Hd.out
  rw [List.length_drop] at hcut
  exact ⟨rfl, hcut, Hc.out.setCell (.inl (.inl rfl)) _⟩

set_option maxHeartbeats 1000000 in
theorem rnum_bad {w : World} {B R L : Nat} {l : List Nat} {e : Int} (h : Rd w B R L l e) (h0 : (num l).2.2 ≠ 0) :
    Calls Try.prog 28 #[.pointer (some ⟨R, 0, none⟩)] w fun e' w' => e' = .panicked [{ v := .iface 39 (.int .i64 ((num l).2.2 : Int)), recovered := false }] ∧ Rd w' B R L l ((num l).2.2 : Int) ∧ Chg (RL R L) w w' := by
  have H1 := Lib.hid (h.end_ ((num l).2.2 : Int))
  have Hc := Lib.hid (rl_L h (.int .i64 ((num l).2.2 : Int)))
  have h' := h
  obtain ⟨_, _, hb, hl, hlast, A, c, hblk, hlc, hA, hd⟩ := h'
  have c0 : w.cell? ⟨R, 0, none⟩ = some (.slice A l.length c) := hblk.cell 0
  have cn := Lib.hid (number_any A c l hb w hd.sl (by omega))
  have ce := Lib.hid (rend_bad h ((num l).2.2 : Int) (by omega))
  clear h hb hlast hblk hd
  generalize num l = p at *
  obtain ⟨x, k, z⟩ := p
  simp only at h0 H1 Hc ce ⊢
  go_enter Try.func28, Try.ntmps28
  go_wp2_with fail
  refine cn.out.mono ?_
  rintro e' w' ⟨rfl, rfl⟩
  unfold numV
  go_wp2_with fail
  refine ce.out.mono ?_
  rintro e' w' ⟨rfl, rfl⟩
  go_wp2_with fail
  exact ⟨rfl, rfl, H1.out, Hc.out⟩

/-- How Bytes ends. -/
def rdE (most : Int) (l : List Nat) : Int :=
  if (num l).2.2 ≠ 0 then ((num l).2.2 : Int) else if most < ((num l).1 : Int) then 3 else if l.length < (num l).2.1 + (num l).1 then 2 else 0

set_option maxHeartbeats 1000000 in
theorem rbytes_bad {w : World} {B R L : Nat} {l : List Nat} {e : Int} (h : Rd w B R L l e) (most : Int) (h0 : rdE most l ≠ 0) :
    Calls Try.prog 26 #[.pointer (some ⟨R, 0, none⟩), .int .i64 most] w fun e' w' => e' = .panicked [{ v := .iface 39 (.int .i64 (rdE most l)), recovered := false }] ∧ Rd w' B R L l (rdE most l) ∧ Chg (RL R L) w w' := by
  have H1 := Lib.hid (h.end_ (rdE most l))
  have Hc := Lib.hid (rl_L h (.int .i64 (rdE most l)))
  have h' := h
  obtain ⟨_, _, hb, hl, hlast, A, c, hblk, hlc, hA, hd⟩ := h'
  have c0 : w.cell? ⟨R, 0, none⟩ = some (.slice A l.length c) := hblk.cell 0
  have cn := Lib.hid (number_any A c l hb w hd.sl (by omega))
  have ce := Lib.hid (rend_bad h (rdE most l) h0)
  have hlt := num_lt l
  have hsz : (num l).2.2 = 0 → (num l).2.1 ≤ l.length := fun h => (num_size h).2
  have He := Lib.hid (show rdE most l = if (num l).2.2 ≠ 0 then ((num l).2.2 : Int) else if most < ((num l).1 : Int) then 3 else if l.length < (num l).2.1 + (num l).1 then 2 else 0 from rfl)
  generalize rdE most l = E at *
  clear h hb hlast hblk hd
  generalize num l = p at *
  obtain ⟨x, k, z⟩ := p
  simp only at He hlt hsz
  by_cases hz : z = 0
  · subst hz
    have hk := hsz rfl
    by_cases hm : most < (x : Int)
    · have q1 : decide (most < (x : Int)) = true := by simpa using hm
      have hE : E = 3 := by have := He.out; rw [if_neg (by simp), if_pos hm] at this; exact this
      subst hE
      clear hsz hm He h0
      go_enter Try.func26, Try.ntmps26
      go_wp2_with fail
      refine cn.out.mono ?_
      rintro e' w' ⟨rfl, rfl⟩
      unfold numV
      go_wp2_with fail
      refine ce.out.mono ?_
      rintro e' w' ⟨rfl, rfl⟩
      go_wp2_with fail
      exact ⟨rfl, rfl, H1.out, Hc.out⟩
    · have q1 : decide (most < (x : Int)) = false := by simpa using hm
      by_cases hs : l.length < k + x
      · have q2 : decide ((l.length : Int) - (k : Int) < (x : Int)) = true := by simp; omega
        have hE : E = 2 := by have := He.out; rw [if_neg (by simp), if_neg hm, if_pos hs] at this; exact this
        subst hE
        clear hsz hm He h0 hs
        go_enter Try.func26, Try.ntmps26
        go_wp2_with fail
        refine cn.out.mono ?_
        rintro e' w' ⟨rfl, rfl⟩
        unfold numV
        go_wp2_with fail
        refine ce.out.mono ?_
        rintro e' w' ⟨rfl, rfl⟩
        go_wp2_with fail
        exact ⟨rfl, rfl, H1.out, Hc.out⟩
      · have := He.out
        rw [if_neg (by simp), if_neg hm, if_neg hs] at this
        exact absurd this h0
  · have hE : E = (z : Int) := by have := He.out; rw [if_pos hz] at this; exact this
    subst hE
    have q0 : ((z : Int) != 0) = true := by simp; omega
    clear hsz He h0 hz
    go_enter Try.func26, Try.ntmps26
    go_wp2_with fail
    refine cn.out.mono ?_
    rintro e' w' ⟨rfl, rfl⟩
    unfold numV
    go_wp2_with fail
    refine ce.out.mono ?_
    rintro e' w' ⟨rfl, rfl⟩
    go_wp2_with fail
    exact ⟨rfl, rfl, H1.out, Hc.out⟩

/-- What Bytes returns: its own bytes. -/
def GotBytes (B R L : Nat) (w : World) (l r : List Nat) (e : Ending) (w' : World) : Prop :=
  ∃ A c, e = .returned (.slice A r.length c) ∧ w'.ownsRow w.heap.size 5 1 (.slice A r.length c) r.length (byts r) ∧ Rd w' B R L l 0 ∧ Chg (RL R L) w w'
set_option maxHeartbeats 1000000 in
theorem rbytes_ok {w : World} {B R L : Nat} {l : List Nat} {e : Int} (h : Rd w B R L l e) (most : Int) (h0 : rdE most l = 0) :
    Calls Try.prog 26 #[.pointer (some ⟨R, 0, none⟩), .int .i64 most] w (GotBytes B R L w (l.drop ((num l).2.1 + (num l).1)) ((l.drop (num l).2.1).take (num l).1)) := by
  have hz : (num l).2.2 = 0 := by
    by_cases hz : (num l).2.2 = 0
    · exact hz
    · unfold rdE at h0; rw [if_pos hz] at h0; omega
  have hm : ¬ most < ((num l).1 : Int) := fun hm => by unfold rdE at h0; rw [if_neg (by omega), if_pos hm] at h0; exact absurd h0 (by decide)
  have hs : ¬ l.length < (num l).2.1 + (num l).1 := fun hs => by unfold rdE at h0; rw [if_neg (by omega), if_neg hm, if_pos hs] at h0; exact absurd h0 (by decide)
  have hk := (num_size hz).2
  have hlt := num_lt l
  have h1 := h.end_ 0
  have hc1 := rl_L h (.int .i64 0)
  have h' := h
  obtain ⟨_, _, hb, hl, hlast, A, c, hblk, hlc, hA, hd⟩ := h'
  have c0 : w.cell? ⟨R, 0, none⟩ = some (.slice A l.length c) := hblk.cell 0
  have cn := Lib.hid (number_any A c l hb w hd.sl (by omega))
  have ce := Lib.hid (rend_ok h)
  have hblk1 : Blk (w.setCell ⟨L, 0, none⟩ (.int .i64 0)) R 93 #[.slice A l.length c, .pointer (some ⟨L, 0, none⟩)] := hblk.far (by simpa using h.ne_.symm) _
  have hd1 : Data (w.setCell ⟨L, 0, none⟩ (.int .i64 0)) B A l := hd.keep fun b _ cur hb => Below.heap_setCell _ _ _ _ (by simpa using Blk.ne_ hb hlast (by decide))
  have hws : (w.setCell ⟨L, 0, none⟩ (.int .i64 0)).heap.size = w.heap.size := by simp
  generalize hW : w.setCell ⟨L, 0, none⟩ (.int .i64 0) = W at *
  obtain ⟨i0, hi0, _, hs0, _⟩ := byte_parts (P := Try.prog) (e := 5) (by kernel_rfl)
  clear h h0 hlast hblk hd hW
  generalize hn : num l = p at *
  obtain ⟨x, k, z⟩ := p
  simp only at hz hk hm hs hlt ⊢
  subst hz
  clear hn
  have cut1 := run_slice_mid Try.underlying24 hi0 hs0 A l.length c k (k + x) (by omega) (by omega)
  have cut2 := run_slice_from Try.underlying24 hi0 hs0 A l.length c (k + x) (by omega)
  rw [Int.natCast_add] at cut1 cut2
  rw [show k + x - k = x by omega] at cut1
  have hr : ((l.drop k).take x).length = x := by rw [List.length_take, List.length_drop]; omega
  have hsl : Sl W W.heap.size (cutA A c k) (byts ((l.drop k).take x)) := by rw [← byts_take]; exact (hd1.drop (k := k) hlc).sl.to x
  have cb := bclone_any (cutA A c k) (c - k) ((l.drop k).take x) W hsl (Nat.le_refl _) (by rw [hr]; omega) (by
    unfold cutA
    by_cases hck : c = k
    · omega
    · rw [if_neg hck]; intro hh; have := hA (by simpa using hh); omega) (by rw [hr]; omega)
  have Hr := Lib.hid hr
  rw [hr] at cb
  generalize (l.drop k).take x = r at *
  have Cb := Lib.hid cb
  have H1 := Lib.hid h1
  have Hc := Lib.hid hc1
  have HA := Lib.hid (show cutA A c (k + x) = none → c - (k + x) = 0 by
    unfold cutA
    by_cases hck : c = k + x
    · omega
    · rw [if_neg hck]; intro hh; have := hA (by simpa using hh); omega)
  have d0 : W.cell? ⟨R, 0, none⟩ = some (.slice A l.length c) := hblk1.cell 0
  have Hb1 := Lib.hid hblk1
  have Hd := Lib.hid hd1
  have q1 : decide (most < (x : Int)) = false := by simpa using hm
  have q2 : decide ((l.length : Int) - (k : Int) < (x : Int)) = false := by simp; omega
  clear hb hr hsl cb h1 hc1 hblk1 hd1 hm
  go_enter Try.func26, Try.ntmps26
  go_wp2_with fail
  refine cn.out.mono ?_
  rintro e' w' ⟨rfl, rfl⟩
  unfold numV
  go_wp2_with fail
  refine ce.out.mono ?_
  rintro e' w' ⟨rfl, rfl⟩
  go_wp2_with fail
  refine Cb.out.mono ?_
  rintro e' w2 ⟨A2, c2, rfl, hown, hb2⟩
  have hblk2 := Hb1.out.keep (hb2.block R Hb1.out.lt)
  have e0 : w2.cell? ⟨R, 0, none⟩ = some (.slice A l.length c) := hblk2.cell 0
  have f0 := hblk2.frozen 0
  have hrd := H1.out.keep (Chg.of_below (fun _ => False) hb2) (fun _ h => h.elim)
  have Hrd := Lib.hid hrd
  have Ho := Lib.hid hown
  have Hb2 := Lib.hid hb2
  clear hblk2 hrd hown hb2
  go_wp2_with fail
  go_ret
  have hcut := Hrd.out.cut (k := k + x) HA.out (by rw [List.length_drop]; omega) ((Hd.out.keep fun b hb _ _ => Hb2.out.block b hb).drop hlc)
  rw [List.length_drop] at hcut
  have hb2 := Hb1.out.keep (Hb2.out.block R Hb1.out.lt)
  have hrow : Row w2 (fun _ => True) 5 1 (.slice A2 r.length c2) r.length (byts r) := ⟨World.ownsRow_base Ho.out (Nat.zero_le _), fun _ _ => trivial⟩
  refine ⟨A2, c2, rfl, ?_, hcut, (Hc.out.then_ (Chg.of_below _ Hb2.out)).setCell (.inl (.inl rfl)) _⟩
  rw [← hws]
  exact own_far Ho.out (fun hk => hrow.ne_ hb2 (by decide) hk) _

set_option maxHeartbeats 400000 in
theorem rleft_any {w : World} {B R L : Nat} {l : List Nat} {e : Int} (h : Rd w B R L l e) :
    Calls Try.prog 24 #[.pointer (some ⟨R, 0, none⟩)] w fun e' w' => e' = .returned (.int .i64 (l.length : Int)) ∧ w' = w := by
  obtain ⟨_, _, _, _, hlast, A, c, hblk, _⟩ := h
  have c0 : w.cell? ⟨R, 0, none⟩ = some (.slice A l.length c) := hblk.cell 0
  clear hlast hblk
  go_enter Try.func24, Try.ntmps24
  go_wp2_with fail
  go_ret
  exact ⟨rfl, rfl⟩
end Go.Proofs.Ytdfelkkibolheaa
