/- The program's source of bytes: take, length. -/
import Derived.Test.YtpfhkbagapodoaaLznx
import Derived.Test.YtpfhkbagapodoaaBy
import Derived.Recover
import Derived.Deep.LoopGhost
import Derived.LoopTactic
namespace Go.Proofs.Ytpfhkbagapodoaa
open Go.RowKit

/-- Block S is a source in front of the bytes l; they lie in memory older than B. -/
structure Src (w : World) (B S : Nat) (l : List Nat) : Prop where
  bS : B ≤ S
  lt : ∀ x ∈ l, x < 256
  len : l.length ≤ 100000
  ex : ∃ A c, Blk w S 41 #[.slice A l.length c] ∧ l.length ≤ c ∧ (A = none → c = 0) ∧ Sl w B A (byts l)
theorem Src.keep {w w' : World} {B S : Nat} {l : List Nat} (h : Src w B S l) (hS : w'.heap[S]? = w.heap[S]?) (hb : Below B w w') : Src w' B S l := by
  obtain ⟨A, c, hblk, hlc, hA, hsl⟩ := h.ex
  exact ⟨h.bS, h.lt, h.len, A, c, hblk.keep hS, hlc, hA, hsl.below hb⟩
theorem Src.lt_heap {w : World} {B S : Nat} {l : List Nat} (h : Src w B S l) : S < w.heap.size := by
  obtain ⟨A, c, hblk, _⟩ := h.ex
  exact hblk.lt
theorem Src.drewN {w : World} {B S : Nat} {l : List Nat} (h : Src w B S l) (n : Nat) : Src (w.drewN n) B S l := h.keep rfl ⟨rfl, rfl, rfl, Nat.le_refl _, fun _ _ => rfl⟩
/-- A call that changes the source alone. -/
abbrev ChS (S : Nat) (w w' : World) : Prop := Chg (fun b => b = S) w w'
theorem ChS.below {w w' : World} {B S : Nat} {l : List Nat} (h : ChS S w w') (hs : Src w B S l) : Below B w w' := Chg.below h (Nat.le_trans hs.bS (Nat.le_of_lt hs.lt_heap)) (fun _ e => by rw [e]; exact hs.bS)

abbrev errShort : Ending := .panicked [{ v := .iface 24 (.int .i64 2), recovered := false }]
/-- What take returns. -/
def Took (B S : Nat) (l : List Nat) (k : Nat) (w : World) (e : Ending) (w' : World) : Prop :=
  ∃ A c, e = .returned (.slice A k c) ∧ k ≤ c ∧ (A = none → c = 0) ∧ Sl w' B A (byts (l.take k)) ∧ Src w' B S (l.drop k) ∧ ChS S w w'
theorem cutA_nil {A : Option Addr} {c k : Nat} (hA : A = none → c = 0) : cutA A c k = none → c - k = 0 := by
  unfold cutA
  by_cases h : c = k
  · omega
  · rw [if_neg h]; intro hh; have := hA (by simpa using hh); omega

set_option maxHeartbeats 1000000 in
theorem take_ok {w : World} {B S : Nat} {l : List Nat} (h : Src w B S l) (k : Nat) (z : Int) (hz : z = (k : Int)) (hk : k ≤ l.length) :
    Calls Try.prog 28 #[.pointer (some ⟨S, 0, none⟩), .int .i64 z] w (Took B S l k w) := by
  subst hz
  obtain ⟨A, c, hblk, hlc, hA, hsl⟩ := h.ex
  obtain ⟨i0, hi0, _, hs0, _⟩ := byte_parts (P := Try.prog) (e := 5) (by kernel_rfl)
  have cut1 := run_slice_to (P := Try.prog) Try.underlying22 hi0 A l.length c k (by omega)
  have cut2 := run_slice_from (P := Try.prog) Try.underlying22 hi0 hs0 A l.length c k hk
  have c0 : w.cell? ⟨S, 0, none⟩ = some (.slice A l.length c) := hblk.cell 0
  have f0 := hblk.frozen 0
  have q1 : decide ((l.length : Int) < (k : Int)) = false := by rw [decide_eq_false_iff_not]; omega
  have q1' : decide (l.length < k) = false := by rw [decide_eq_false_iff_not]; omega
  have HB := Lib.hid (hblk.set_ 0 (.slice (cutA A c k) (l.length - k) (c - k)))
  have Hch := Lib.hid (fun v => (Chg.refl (fun b => b = S) w).setCell (p := ⟨S, 0, none⟩) (.inl rfl) v)
  have Hbel := Lib.hid (fun v => (Below.refl B w).setCell (p := ⟨S, 0, none⟩) h.bS v)
  have Hs := Lib.hid hsl
  have H := Lib.hid h
  have HA := Lib.hid hA
  have Hlen := Lib.hid (show (l.drop k).length = l.length - k from List.length_drop)
  clear hblk hsl h hA
  generalize hn : l.length = n at *
  have Hn := Lib.hid hn
  clear hn
  go_enter Try.func28, Try.ntmps28
  go_wp2_with fail
  go_ret
  refine ⟨A, c, rfl, by omega, HA.out, ?_, ⟨H.out.bS, fun x hx => H.out.lt x (List.mem_of_mem_drop hx), ?_, cutA A c k, c - k, ?_, ?_, cutA_nil HA.out, ?_⟩, Hch.out _⟩
  · rw [← byts_take]; exact (Hs.out.below (Hbel.out _)).to k
  · rw [List.length_drop]; have := H.out.len; omega
  · rw [Hlen.out]; exact HB.out
  · rw [Hlen.out]; omega
  · rw [← byts_drop]
    exact (Hs.out.below (Hbel.out _)).from (by rw [byts_length, Hn.out]; exact hlc)

set_option maxHeartbeats 1000000 in
theorem take_no {w : World} {B S : Nat} {l : List Nat} (h : Src w B S l) (k : Nat) (z : Int) (hz : z = (k : Int)) (hk : l.length < k) :
    Calls Try.prog 28 #[.pointer (some ⟨S, 0, none⟩), .int .i64 z] w fun e w' => e = errShort ∧ w' = w := by
  subst hz
  obtain ⟨A, c, hblk, hlc, hA, hsl⟩ := h.ex
  have c0 : w.cell? ⟨S, 0, none⟩ = some (.slice A l.length c) := hblk.cell 0
  have q1 : decide ((l.length : Int) < (k : Int)) = true := by rw [decide_eq_true_eq]; omega
  have q1' : decide (l.length < k) = true := by rw [decide_eq_true_eq]; omega
  clear hblk hsl h hA
  generalize l.length = n at *
  go_enter Try.func28, Try.ntmps28
  go_wp2_with fail
  exact ⟨rfl, rfl, rfl⟩

/-- One byte. -/
def Took1 (B S : Nat) (x : Nat) (r : List Nat) (w : World) (e : Ending) (w' : World) : Prop :=
  ∃ b o c, e = .returned (.slice (some ⟨b, o, none⟩) 1 c) ∧ b < B ∧ w'.cell? ⟨b, o, none⟩ = some (.int .u8 (x : Int)) ∧ Src w' B S r ∧ ChS S w w'
theorem take1 {w : World} {B S x : Nat} {r : List Nat} (h : Src w B S (x :: r)) : Calls Try.prog 28 #[.pointer (some ⟨S, 0, none⟩), .int .i64 1] w (Took1 B S x r w) := by
  refine (take_ok h 1 1 rfl (by simp)).mono ?_
  rintro e w' ⟨A, c, rfl, _, _, hsl, hs, hc⟩
  obtain ⟨b, o, rfl, hb, hcell⟩ := hsl.at_ (i := 0) (by simp [byts])
  exact ⟨b, o, c, rfl, hb, by simpa [byts] using hcell 0 (by simp [byts]), hs, hc⟩
/-- Two bytes. -/
def Took2 (B S : Nat) (x y : Nat) (r : List Nat) (w : World) (e : Ending) (w' : World) : Prop :=
  ∃ b o c, e = .returned (.slice (some ⟨b, o, none⟩) 2 c) ∧ b < B ∧ w'.cell? ⟨b, o, none⟩ = some (.int .u8 (x : Int)) ∧ w'.cell? ⟨b, o + 1, none⟩ = some (.int .u8 (y : Int)) ∧ Src w' B S r ∧ ChS S w w'
theorem take2 {w : World} {B S x y : Nat} {r : List Nat} (h : Src w B S (x :: y :: r)) : Calls Try.prog 28 #[.pointer (some ⟨S, 0, none⟩), .int .i64 2] w (Took2 B S x y r w) := by
  refine (take_ok h 2 2 rfl (by simp)).mono ?_
  rintro e w' ⟨A, c, rfl, _, _, hsl, hs, hc⟩
  obtain ⟨b, o, rfl, hb, hcell⟩ := hsl.at_ (i := 0) (by simp [byts])
  exact ⟨b, o, c, rfl, hb, by simpa [byts] using hcell 0 (by simp [byts]), by simpa [byts] using hcell 1 (by simp [byts]), hs, hc⟩

set_option maxHeartbeats 2000000 in
/-- The rounds of length. -/
theorem length_any {w : World} {B S : Nat} {r : List Nat} (h : Src w B S r) (s : Nat) (z : Int) (hz : z = (s : Int)) (hs : s < 16) :
    Calls Try.prog 29 #[.pointer (some ⟨S, 0, none⟩), .int .u8 z] w fun e w' => ChS S w w' ∧
      ((∃ m q, Lz.added r s = some (m, q) ∧ e = .returned (.int .i64 (m : Int)) ∧ Src w' B S q) ∨ (Lz.added r s = none ∧ e = errShort)) := by
  subst hz
  by_cases h15 : s < 15
  · have q1 : decide ((s : Int) < 15) = true := by rw [decide_eq_true_eq]; omega
    have q1' : decide (s < 15) = true := by rw [decide_eq_true_eq]; omega
    have ha : Lz.added r s = some (s, r) := by unfold Lz.added; rw [if_pos h15]
    have H := Lib.hid h
    have Ha := Lib.hid ha
    clear h ha
    go_enter Try.func29, Try.ntmps29
    go_wp2_with fail
    go_ret
    exact ⟨Chg.refl _ _, .inl ⟨s, r, Ha.out, rfl, H.out⟩⟩
  have hs15 : s = 15 := by omega
  subst hs15
  have ha : Lz.added r 15 = Lz.go r 15 := rfl
  have H := Lib.hid h
  have Ha := Lib.hid ha
  clear h ha h15 hs
  go_enter Try.func29, Try.ntmps29
  go_wp2_with fail
  go_loopg [5] r.length (fun g v wr => ∃ (m : Nat) (q : List Nat), g = q.length ∧ v = .int .i64 m ∧ Src wr B S q ∧ ChS S w wr ∧ Lz.go r 15 = Lz.go q m ∧ m + 255 * q.length ≤ 15 + 255 * r.length)
  case atStart => exact ⟨15, r, rfl, rfl, H.out, Chg.refl _ _, rfl, Nat.le_refl _⟩
  case round =>
    obtain ⟨m, q, rfl, rfl, hs, hc, hg, hm⟩ := hrel
    have Hs := Lib.hid hs
    have Hc := Lib.hid hc
    have Hg := Lib.hid hg
    have hrl := H.out.len
    cases q with
    | nil =>
      have N := Lib.hid (take_no hs 1 1 rfl (by simp))
      clear hs hc hg
      go_wp2_with fail
      refine N.out.mono ?_
      rintro e w1 ⟨rfl, rfl⟩
      go_wp2_with fail
      exact ⟨rfl, Hc.out, .inr ⟨by rw [Ha.out, Hg.out]; rfl, rfl⟩⟩
    | cons x q =>
      have N := Lib.hid (take1 hs)
      have hx := hs.lt x (List.mem_cons_self ..)
      rw [List.length_cons] at hm
      clear hs hc hg
      go_wp2_with fail
      refine N.out.mono ?_
      rintro e w1 ⟨b, o, c, rfl, hb, hcell, hs1, hc1⟩
      have Hs1 := Lib.hid hs1
      have Hc1 := Lib.hid (Hc.out.then_ hc1)
      clear hs1 hc1 N Hs Hc
      by_cases h255 : x < 255
      · have q2 : ((x : Int) != 255) = true := by rw [bne_iff_ne]; omega
        have q2' : (x != 255) = true := by rw [bne_iff_ne]; omega
        have hgo : Lz.go (x :: q) m = some (m + x, q) := by rw [Lz.go, if_pos h255]
        have Hgo := Lib.hid (Ha.out.trans (Hg.out.trans hgo))
        clear hgo Ha Hg
        go_wp2_with fail
        go_ret
        exact ⟨Hc1.out, .inl ⟨m + x, q, Hgo.out, by rw [Int.natCast_add]; rfl, Hs1.out⟩⟩
      · have hx5 : x = 255 := by omega
        subst hx5
        have hgo : Lz.go (255 :: q) m = Lz.go q (m + 255) := by rw [Lz.go, if_neg (by decide)]
        have Hgo := Lib.hid (Hg.out.trans hgo)
        clear hgo Hg
        go_wp2_with fail
        go_roundg q.length
        case rel => exact ⟨m + 255, q, rfl, by go_num, Hs1.out, Hc1.out, Hgo.out, by omega⟩
        case measure => simp
end Go.Proofs.Ytpfhkbagapodoaa
