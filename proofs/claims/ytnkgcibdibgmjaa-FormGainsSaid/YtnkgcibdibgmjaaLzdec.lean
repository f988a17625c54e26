/- A sequence of a block, taken at once (plain Lean, no program). The program's source of bytes: take, length. The program's sequence: the next sequence of a block. The program's repeat and decode. -/
import Derived.Test.YtnkgcibdibgmjaaLzc
import Derived.Test.YtnkgcibdibgmjaaBy
import Derived.Recover
import Derived.Deep.LoopGhost
import Derived.LoopTactic
import Derived.Deep.RegionHeldLaw
namespace Go.Proofs.Ytnkgcibdibgmjaa.Lz

/-- The next sequence: its literals and, unless it is the last, how far back, how many more than four, and what is left; none: a byte is missing. -/
def next : List Nat → Option (List Nat × Option (Nat × Nat × List Nat))
  | [] => none
  | t :: r =>
    match added r (t / 16) with
    | none => none
    | some (lits, r1) =>
      if r1.length < lits then none else
      match r1.drop lits with
      | [] => some (r1.take lits, none)
      | [_] => none
      | b0 :: b1 :: r3 =>
        match added r3 (t % 16) with
        | none => none
        | some (many, r4) => some (r1.take lits, some (b0 + b1 * 256, many, r4))
section
variable {t lits : Nat} {r q : List Nat}
theorem next_none (h : added r (t / 16) = none) : next (t :: r) = none := by unfold next; simp only [h]
theorem next_short (h : added r (t / 16) = some (lits, q)) (h2 : q.length < lits) : next (t :: r) = none := by unfold next; simp only [h]; rw [if_pos h2]
theorem next_last (h : added r (t / 16) = some (lits, q)) (h2 : q.length = lits) : next (t :: r) = some (q, none) := by
  subst h2
  unfold next; simp only [h]
  rw [if_neg (by omega), List.drop_length, List.take_length]
theorem next_one (h : added r (t / 16) = some (lits, q)) (h2 : q.length = lits + 1) : next (t :: r) = none := by
  unfold next; simp only [h]
  rw [if_neg (by omega)]
  have : (q.drop lits).length = 1 := by rw [List.length_drop]; omega
  match hq : q.drop lits, this with
  | [_], _ => rfl
theorem next_more_none {b0 b1 : Nat} {r3 : List Nat} (h : added r (t / 16) = some (lits, q)) (h2 : lits ≤ q.length) (h3 : q.drop lits = b0 :: b1 :: r3) (h4 : added r3 (t % 16) = none) : next (t :: r) = none := by
  unfold next; simp only [h]
  rw [if_neg (by omega), h3]; simp only; rw [h4]
theorem next_more {b0 b1 many : Nat} {r3 r4 : List Nat} (h : added r (t / 16) = some (lits, q)) (h2 : lits ≤ q.length) (h3 : q.drop lits = b0 :: b1 :: r3) (h4 : added r3 (t % 16) = some (many, r4)) : next (t :: r) = some (q.take lits, some (b0 + b1 * 256, many, r4)) := by
  unfold next; simp only [h]
  rw [if_neg (by omega), h3]; simp only; rw [h4]
end
/-- What the steps of a block are, by its next sequence. -/
theorem unp_next (n f : Nat) (l o : List Nat) : unp n (f + 1) l o = match next l with
    | none => ([], 2)
    | some (ls, none) => if n - o.length < ls.length then ([], 3) else if o.length + ls.length < n then ([], 2) else (o ++ ls, 0)
    | some (ls, some (back, many, r4)) => if n - o.length < ls.length then ([], 3)
        else if back = 0 ∨ o.length + ls.length < back then ([], 4)
        else if n - (o.length + ls.length) < many + 4 then ([], 3)
        else unp n f r4 (copyB (o ++ ls) back (many + 4)) := by
  cases l with
  | nil => rw [unp_nil]; rfl
  | cons t r =>
    cases ha : added r (t / 16) with
    | none => rw [unp_none ha, next_none ha]
    | some pr =>
      obtain ⟨lits, q⟩ := pr
      by_cases h1 : q.length < lits
      · rw [unp_short ha h1, next_short ha h1]
      by_cases h2 : q.length = lits
      · rw [unp_last ha h2, next_last ha h2]; simp only [h2]
      by_cases h3 : q.length = lits + 1
      · rw [unp_one ha h3, next_one ha h3]
      have h4 : lits + 2 ≤ q.length := by omega
      have hd := drop_two h4
      have hl : (q.take lits).length = lits := by rw [List.length_take]; omega
      cases hb : added (q.drop (lits + 2)) (t % 16) with
      | none => rw [unp_more_none ha h4 hb, next_more_none ha (by omega) hd hb]
      | some pr2 =>
        obtain ⟨many, q2⟩ := pr2
        rw [unp_more ha h4 hb, next_more ha (by omega) hd hb]
        simp only [hl]
theorem next_lt {l ls : List Nat} {m : Option (Nat × Nat × List Nat)} (h : next l = some (ls, m)) (hl : ∀ x ∈ l, x < 256) : ∀ x ∈ ls, x < 256 := by
  cases l with
  | nil => cases h
  | cons t r =>
    have hr : ∀ x ∈ r, x < 256 := fun x hx => hl x (List.mem_cons_of_mem _ hx)
    cases ha : added r (t / 16) with
    | none => rw [next_none ha] at h; cases h
    | some pr =>
      obtain ⟨lits, q⟩ := pr
      have hq : ∀ x ∈ q, x < 256 := fun x hx => hr x (by rw [(added_len ha).2.2] at hx; exact List.mem_of_mem_drop hx)
      by_cases h1 : q.length < lits
      · rw [next_short ha h1] at h; cases h
      by_cases h2 : q.length = lits
      · rw [next_last ha h2] at h
        injection h with h; injection h with h _; subst h; exact hq
      by_cases h3 : q.length = lits + 1
      · rw [next_one ha h3] at h; cases h
      have hd := drop_two (q := q) (k := lits) (by omega)
      cases hb : added (q.drop (lits + 2)) (t % 16) with
      | none => rw [next_more_none ha (by omega) hd hb] at h; cases h
      | some pr2 =>
        obtain ⟨many, q2⟩ := pr2
        rw [next_more ha (by omega) hd hb] at h
        injection h with h; injection h with h _; subst h
        exact fun x hx => hq x (List.mem_of_mem_take hx)
theorem next_less {l ls r : List Nat} {back many : Nat} (h : next l = some (ls, some (back, many, r))) : r.length < l.length := by
  cases l with
  | nil => cases h
  | cons t r0 =>
    cases ha : added r0 (t / 16) with
    | none => rw [next_none ha] at h; cases h
    | some pr =>
      obtain ⟨lits, q⟩ := pr
      have hq := (added_len ha).1
      by_cases h1 : q.length < lits
      · rw [next_short ha h1] at h; cases h
      by_cases h2 : q.length = lits
      · rw [next_last ha h2] at h; cases h
      by_cases h3 : q.length = lits + 1
      · rw [next_one ha h3] at h; cases h
      have hd := drop_two (q := q) (k := lits) (by omega)
      cases hb : added (q.drop (lits + 2)) (t % 16) with
      | none => rw [next_more_none ha (by omega) hd hb] at h; cases h
      | some pr2 =>
        obtain ⟨many2, q2⟩ := pr2
        have h4 := (added_len hb).1
        rw [List.length_drop] at h4
        rw [next_more ha (by omega) hd hb] at h
        injection h with h; injection h with _ h; injection h with h; injection h with _ h; injection h with _ h; subst h
        rw [List.length_cons]
        omega
end Go.Proofs.Ytnkgcibdibgmjaa.Lz

namespace Go.Proofs.Ytnkgcibdibgmjaa
open Go.RowKit

/-- Block S is a source in front of the bytes l; they lie in memory older than B. -/
structure Src (w : World) (B S : Nat) (l : List Nat) : Prop where
  bS : B ≤ S
  lt : ∀ x ∈ l, x < 256
  len : l.length ≤ 100000
  ex : ∃ A c, Blk w S 88 #[.slice A l.length c] ∧ l.length ≤ c ∧ (A = none → c = 0) ∧ Sl w B A (byts l)
theorem Src.keep {w w' : World} {B S : Nat} {l : List Nat} (h : Src w B S l) (hS : w'.heap[S]? = w.heap[S]?) (hb : Below B w w') : Src w' B S l := by
  obtain ⟨A, c, hblk, hlc, hA, hsl⟩ := h.ex
  exact ⟨h.bS, h.lt, h.len, A, c, hblk.keep hS, hlc, hA, hsl.below hb⟩
theorem Src.lt_heap {w : World} {B S : Nat} {l : List Nat} (h : Src w B S l) : S < w.heap.size := by
  obtain ⟨A, c, hblk, _⟩ := h.ex
  exact hblk.lt
theorem Src.drewN {w : World} {B S : Nat} {l : List Nat} (h : Src w B S l) (n : Nat) : Src (w.drewN n) B S l := h.keep rfl ⟨rfl, rfl, rfl, Nat.le_refl _, fun _ _ => rfl⟩
/-- A call that changes the source alone. -/
abbrev ChS (S : Nat) (w w' : World) : Prop := Chg (fun b => b = S) w w'
theorem ChS.below {w w' : World} {B S : Nat} {l : List Nat} (h : ChS S w w') (hs : Src w B S l) : Below B w w' := Chg.below h (Nat.le_trans hs.bS (Nat.le_of_lt hs.lt_heap)) (fun _ e => by rw [e]; exact hs.bS)

abbrev errShort : Ending := .panicked [{ v := .iface 34 (.int .i64 2), recovered := false }]
/-- What take returns. -/
def Took (B S : Nat) (l : List Nat) (k : Nat) (w : World) (e : Ending) (w' : World) : Prop :=
  ∃ A c, e = .returned (.slice A k c) ∧ k ≤ c ∧ (A = none → c = 0) ∧ Sl w' B A (byts (l.take k)) ∧ Src w' B S (l.drop k) ∧ ChS S w w'
theorem cutA_nil {A : Option Addr} {c k : Nat} (hA : A = none → c = 0) : cutA A c k = none → c - k = 0 := by
  unfold cutA
  by_cases h : c = k
  · omega
  · rw [if_neg h]; intro hh; have := hA (by simpa using hh); omega

set_option maxHeartbeats 1000000 in
theorem take_ok {w : World} {B S : Nat} {l : List Nat} (h : Src w B S l) (k : Nat) (z : Int) (hz : z = (k : Int)) (hk : k ≤ l.length) :
    Calls Try.prog 66 #[.pointer (some ⟨S, 0, none⟩), .int .i64 z] w (Took B S l k w) := by
  subst hz
  obtain ⟨A, c, hblk, hlc, hA, hsl⟩ := h.ex
  obtain ⟨i0, hi0, _, hs0, _⟩ := byte_parts (P := Try.prog) (e := 5) (by kernel_rfl)
  have cut1 := run_slice_to (P := Try.prog) Try.underlying22 hi0 A l.length c k (by omega)
  have cut2 := run_slice_from (P := Try.prog) Try.underlying22 hi0 hs0 A l.length c k hk
  have c0 : w.cell? ⟨S, 0, none⟩ = some (.slice A l.length c) := hblk.cell 0
  have f0 := hblk.frozen 0
  have q1 : decide ((l.length : Int) < (k : Int)) = false := by rw [decide_eq_false_iff_not]; omega
  have q1' : decide (l.length < k) = false := by rw [decide_eq_false_iff_not]; omega
  have HB := Lib.hid (hblk.set_ 0 (.slice (cutA A c k) (l.length - k) (c - k)))
  have Hch := Lib.hid (fun v => (Chg.refl (fun b => b = S) w).setCell (p := ⟨S, 0, none⟩) (.inl rfl) v)
  have Hbel := Lib.hid (fun v => (Below.refl B w).setCell (p := ⟨S, 0, none⟩) h.bS v)
  have Hs := Lib.hid hsl
  have H := Lib.hid h
  have HA := Lib.hid hA
  have Hlen := Lib.hid (show (l.drop k).length = l.length - k from List.length_drop)
  clear hblk hsl h hA
  generalize hn : l.length = n at *
  have Hn := Lib.hid hn
  clear hn
  go_enter Try.func66, Try.ntmps66
  go_wp2_with fail
  go_ret
  refine ⟨A, c, rfl, by omega, HA.out, ?_, ⟨H.out.bS, fun x hx => H.out.lt x (List.mem_of_mem_drop hx), ?_, cutA A c k, c - k, ?_, ?_, cutA_nil HA.out, ?_⟩, Hch.out _⟩
  · rw [← byts_take]; exact (Hs.out.below (Hbel.out _)).to k
  · rw [List.length_drop]; have := H.out.len; omega
  · rw [Hlen.out]; exact HB.out
  · rw [Hlen.out]; omega
  · rw [← byts_drop]
    exact (Hs.out.below (Hbel.out _)).from (by rw [byts_length, Hn.out]; exact hlc)

set_option maxHeartbeats 1000000 in
theorem take_no {w : World} {B S : Nat} {l : List Nat} (h : Src w B S l) (k : Nat) (z : Int) (hz : z = (k : Int)) (hk : l.length < k) :
    Calls Try.prog 66 #[.pointer (some ⟨S, 0, none⟩), .int .i64 z] w fun e w' => e = errShort ∧ w' = w := by
  subst hz
  obtain ⟨A, c, hblk, hlc, hA, hsl⟩ := h.ex
  have c0 : w.cell? ⟨S, 0, none⟩ = some (.slice A l.length c) := hblk.cell 0
  have q1 : decide ((l.length : Int) < (k : Int)) = true := by rw [decide_eq_true_eq]; omega
  have q1' : decide (l.length < k) = true := by rw [decide_eq_true_eq]; omega
  clear hblk hsl h hA
  generalize l.length = n at *
  go_enter Try.func66, Try.ntmps66
  go_wp2_with fail
  exact ⟨rfl, rfl, rfl⟩

/-- One byte. -/
def Took1 (B S : Nat) (x : Nat) (r : List Nat) (w : World) (e : Ending) (w' : World) : Prop :=
  ∃ b o c, e = .returned (.slice (some ⟨b, o, none⟩) 1 c) ∧ b < B ∧ w'.cell? ⟨b, o, none⟩ = some (.int .u8 (x : Int)) ∧ Src w' B S r ∧ ChS S w w'
theorem take1 {w : World} {B S x : Nat} {r : List Nat} (h : Src w B S (x :: r)) : Calls Try.prog 66 #[.pointer (some ⟨S, 0, none⟩), .int .i64 1] w (Took1 B S x r w) := by
  refine (take_ok h 1 1 rfl (by simp)).mono ?_
  rintro e w' ⟨A, c, rfl, _, _, hsl, hs, hc⟩
  obtain ⟨b, o, rfl, hb, hcell⟩ := hsl.at_ (i := 0) (by simp [byts])
  exact ⟨b, o, c, rfl, hb, by simpa [byts] using hcell 0 (by simp [byts]), hs, hc⟩
/-- Two bytes. -/
def Took2 (B S : Nat) (x y : Nat) (r : List Nat) (w : World) (e : Ending) (w' : World) : Prop :=
  ∃ b o c, e = .returned (.slice (some ⟨b, o, none⟩) 2 c) ∧ b < B ∧ w'.cell? ⟨b, o, none⟩ = some (.int .u8 (x : Int)) ∧ w'.cell? ⟨b, o + 1, none⟩ = some (.int .u8 (y : Int)) ∧ Src w' B S r ∧ ChS S w w'
theorem take2 {w : World} {B S x y : Nat} {r : List Nat} (h : Src w B S (x :: y :: r)) : Calls Try.prog 66 #[.pointer (some ⟨S, 0, none⟩), .int .i64 2] w (Took2 B S x y r w) := by
  refine (take_ok h 2 2 rfl (by simp)).mono ?_
  rintro e w' ⟨A, c, rfl, _, _, hsl, hs, hc⟩
  obtain ⟨b, o, rfl, hb, hcell⟩ := hsl.at_ (i := 0) (by simp [byts])
  exact ⟨b, o, c, rfl, hb, by simpa [byts] using hcell 0 (by simp [byts]), by simpa [byts] using hcell 1 (by simp [byts]), hs, hc⟩

set_option maxHeartbeats 2000000 in
/-- The rounds of length. -/
theorem length_any {w : World} {B S : Nat} {r : List Nat} (h : Src w B S r) (s : Nat) (z : Int) (hz : z = (s : Int)) (hs : s < 16) :
    Calls Try.prog 67 #[.pointer (some ⟨S, 0, none⟩), .int .u8 z] w fun e w' => ChS S w w' ∧
      ((∃ m q, Lz.added r s = some (m, q) ∧ e = .returned (.int .i64 (m : Int)) ∧ Src w' B S q) ∨ (Lz.added r s = none ∧ e = errShort)) := by
  subst hz
  by_cases h15 : s < 15
  · have q1 : decide ((s : Int) < 15) = true := by rw [decide_eq_true_eq]; omega
    have q1' : decide (s < 15) = true := by rw [decide_eq_true_eq]; omega
    have ha : Lz.added r s = some (s, r) := by unfold Lz.added; rw [if_pos h15]
    have H := Lib.hid h
    have Ha := Lib.hid ha
    clear h ha
    go_enter Try.func67, Try.ntmps67
    go_wp2_with fail
    go_ret
    exact ⟨Chg.refl _ _, .inl ⟨s, r, Ha.out, rfl, H.out⟩⟩
  have hs15 : s = 15 := by omega
  subst hs15
  have ha : Lz.added r 15 = Lz.go r 15 := rfl
  have H := Lib.hid h
  have Ha := Lib.hid ha
  clear h ha h15 hs
  go_enter Try.func67, Try.ntmps67
  go_wp2_with fail
  go_loopg [5] r.length (fun g v wr => ∃ (m : Nat) (q : List Nat), g = q.length ∧ v = .int .i64 m ∧ Src wr B S q ∧ ChS S w wr ∧ Lz.go r 15 = Lz.go q m ∧ m + 255 * q.length ≤ 15 + 255 * r.length)
  case atStart => exact ⟨15, r, rfl, rfl, H.out, Chg.refl _ _, rfl, Nat.le_refl _⟩
  case round =>
    obtain ⟨m, q, rfl, rfl, hs, hc, hg, hm⟩ := hrel
    have Hs := Lib.hid hs
    have Hc := Lib.hid hc
    have Hg := Lib.hid hg
    have hrl := H.out.len
    cases q with
    | nil =>
      have N := Lib.hid (take_no hs 1 1 rfl (by simp))
      clear hs hc hg
      go_wp2_with fail
      refine N.out.mono ?_
      rintro e w1 ⟨rfl, rfl⟩
      go_wp2_with fail
      exact ⟨rfl, Hc.out, .inr ⟨by rw [Ha.out, Hg.out]; rfl, rfl⟩⟩
    | cons x q =>
      have N := Lib.hid (take1 hs)
      have hx := hs.lt x (List.mem_cons_self ..)
      rw [List.length_cons] at hm
      clear hs hc hg
      go_wp2_with fail
      refine N.out.mono ?_
      rintro e w1 ⟨b, o, c, rfl, hb, hcell, hs1, hc1⟩
      have Hs1 := Lib.hid hs1
      have Hc1 := Lib.hid (Hc.out.then_ hc1)
      clear hs1 hc1 N Hs Hc
      by_cases h255 : x < 255
      · have q2 : ((x : Int) != 255) = true := by rw [bne_iff_ne]; omega
        have q2' : (x != 255) = true := by rw [bne_iff_ne]; omega
        have hgo : Lz.go (x :: q) m = some (m + x, q) := by rw [Lz.go, if_pos h255]
        have Hgo := Lib.hid (Ha.out.trans (Hg.out.trans hgo))
        clear hgo Ha Hg
        go_wp2_with fail
        go_ret
        exact ⟨Hc1.out, .inl ⟨m + x, q, Hgo.out, by rw [Int.natCast_add]; rfl, Hs1.out⟩⟩
      · have hx5 : x = 255 := by omega
        subst hx5
        have hgo : Lz.go (255 :: q) m = Lz.go q (m + 255) := by rw [Lz.go, if_neg (by decide)]
        have Hgo := Lib.hid (Hg.out.trans hgo)
        clear hgo Hg
        go_wp2_with fail
        go_roundg q.length
        case rel => exact ⟨m + 255, q, rfl, by go_num, Hs1.out, Hc1.out, Hgo.out, by omega⟩
        case measure => simp
end Go.Proofs.Ytnkgcibdibgmjaa

namespace Go.Proofs.Ytnkgcibdibgmjaa
open Go.RowKit

theorem panic_here {P : Program} (w : World) {G : Prop} (h : G) : wpAny P .any #[] (fun _ _ _ => True) 0 #[] { tmps := #[], defers := [] } w → G := fun _ => h
theorem and15b {t : Nat} (ht : t < 256) : bits BinOp.and IntKind.u8 (t : Int) 15 = ((t % 16 : Nat) : Int) := by
  have h' : ∀ z : Nat, z < 256 → bits BinOp.and IntKind.u8 (z : Int) 15 = ((z % 16 : Nat) : Int) := by decide +kernel
  exact h' t ht
section
variable {w : World} {B S : Nat} {r q : List Nat} {s m : Nat}
theorem length_ok (h : Src w B S r) (hs : s < 16) (ha : Lz.added r s = some (m, q)) (z : Int) (hz : z = (s : Int)) :
    Calls Try.prog 67 #[.pointer (some ⟨S, 0, none⟩), .int .u8 z] w fun e w' => e = .returned (.int .i64 (m : Int)) ∧ Src w' B S q ∧ ChS S w w' := by
  refine (length_any h s z hz hs).mono ?_
  rintro e w' ⟨hc, ⟨m', q', h', rfl, hs'⟩ | ⟨h', _⟩⟩
  · rw [ha] at h'
    injection h' with h'; injection h' with h1 h2
    subst h1; subst h2
    exact ⟨rfl, hs', hc⟩
  · rw [ha] at h'; cases h'
theorem length_no (h : Src w B S r) (hs : s < 16) (ha : Lz.added r s = none) (z : Int) (hz : z = (s : Int)) :
    Calls Try.prog 67 #[.pointer (some ⟨S, 0, none⟩), .int .u8 z] w fun e w' => e = errShort ∧ ChS S w w' := by
  refine (length_any h s z hz hs).mono ?_
  rintro e w' ⟨hc, ⟨m', q', h', _⟩ | ⟨_, rfl⟩⟩
  · rw [ha] at h'; cases h'
  · exact ⟨rfl, hc⟩
end

/-- How a sequence that is whole is returned. -/
def SeqR (B S : Nat) (ls : List Nat) (last : Bool) (back many : Int) (r : List Nat) (w : World) (e : Ending) (w' : World) : Prop :=
  ∃ A c, e = .returned (.agg #[.slice A ls.length c, .bool last, .int .i64 back, .int .i64 many]) ∧ ls.length ≤ c ∧ (A = none → c = 0) ∧ Sl w' B A (byts ls) ∧ Src w' B S r ∧ ChS S w w'

/-- Four cells stored into. -/
theorem set4 {w : World} {g : Nat} {t : TypeId} {x0 x1 x2 x3 : Value} (h : Blk w g t #[x0, x1, x2, x3]) (y0 y1 y2 y3 : Value) :
    Blk ((((w.setCell ⟨g, 0, none⟩ y0).setCell ⟨g, 1, none⟩ y1).setCell ⟨g, 2, none⟩ y2).setCell ⟨g, 3, none⟩ y3) g t #[y0, y1, y2, y3] := by
  have := (((h.set_ 0 y0).set_ 1 y1).set_ 2 y2).set_ 3 y3
  simpa using this
theorem set4_chg {F : Nat → Prop} {w w3 : World} {g : Nat} (h : Chg F w w3) (hg : w.heap.size ≤ g) (y0 y1 y2 y3 : Value) :
    Chg F w ((((w3.setCell ⟨g, 0, none⟩ y0).setCell ⟨g, 1, none⟩ y1).setCell ⟨g, 2, none⟩ y2).setCell ⟨g, 3, none⟩ y3) :=
  (((h.setCell (p := ⟨g, 0, none⟩) (.inr hg) y0).setCell (p := ⟨g, 1, none⟩) (.inr hg) y1).setCell (p := ⟨g, 2, none⟩) (.inr hg) y2).setCell (p := ⟨g, 3, none⟩) (.inr hg) y3
theorem set4_chg' {F : Nat → Prop} {w w3 : World} {g : Nat} (h : Chg F w w3) (hg : F g) (y0 y1 y2 y3 : Value) :
    Chg F w ((((w3.setCell ⟨g, 0, none⟩ y0).setCell ⟨g, 1, none⟩ y1).setCell ⟨g, 2, none⟩ y2).setCell ⟨g, 3, none⟩ y3) :=
  (((h.setCell (p := ⟨g, 0, none⟩) (.inl hg) y0).setCell (p := ⟨g, 1, none⟩) (.inl hg) y1).setCell (p := ⟨g, 2, none⟩) (.inl hg) y2).setCell (p := ⟨g, 3, none⟩) (.inl hg) y3
theorem seq_end {w w3 : World} {B S g n c : Nat} {A : Option Addr} {ls r : List Nat} (hg : w.heap.size = g) (hS : S < g) (hc : ChS S w w3) (hs : Src w3 B S r) (hsl : Sl w3 B A (byts ls)) (hn : ls.length = n) (hnc : n ≤ c) (hA : A = none → c = 0) (last : Bool) (back many : Int) :
    SeqR B S ls last back many r w (.returned (.agg #[.slice A n c, .bool last, .int .i64 back, .int .i64 many]))
      ((((w3.setCell ⟨g, 0, none⟩ (.slice A n c)).setCell ⟨g, 1, none⟩ (.bool last)).setCell ⟨g, 2, none⟩ (.int .i64 back)).setCell ⟨g, 3, none⟩ (.int .i64 many)) := by
  subst hn
  have hch := set4_chg (F := fun b => b = S) hc (Nat.le_of_eq hg) (.slice A ls.length c) (.bool last) (.int .i64 back) (.int .i64 many)
  have hc3 : Chg (fun b => b = g) w3 ((((w3.setCell ⟨g, 0, none⟩ (.slice A ls.length c)).setCell ⟨g, 1, none⟩ (.bool last)).setCell ⟨g, 2, none⟩ (.int .i64 back)).setCell ⟨g, 3, none⟩ (.int .i64 many)) :=
    ((((Chg.refl (fun b => b = g) w3).setCell (p := ⟨g, 0, none⟩) (.inl rfl) _).setCell (p := ⟨g, 1, none⟩) (.inl rfl) _).setCell (p := ⟨g, 2, none⟩) (.inl rfl) _).setCell (p := ⟨g, 3, none⟩) (.inl rfl) _
  have hbS := hs.bS
  have hSw := hs.lt_heap
  have hbel := hc3.below (B := B) (by omega) (fun i hi => by omega)
  exact ⟨A, c, rfl, hnc, hA, hsl.below hbel, hs.keep (hc3.block S hSw (by omega)) hbel, hch⟩

set_option maxRecDepth 4000 in
set_option maxHeartbeats 4000000 in
theorem seq_no {w : World} {B S : Nat} {l : List Nat} (h : Src w B S l) (hn : Lz.next l = none) :
    Calls Try.prog 59 #[.pointer (some ⟨S, 0, none⟩)] w fun e w' => e = errShort ∧ ChS S w w' := by
  cases l with
  | nil =>
    obtain ⟨w0, h0⟩ : ∃ x, x = w.alloc (.cells #[.slice none 0 0, .bool false, .int .i64 0, .int .i64 0] 96) := ⟨_, rfl⟩
    have hS := h.lt_heap
    have e0 : w.alloc (.cells #[.slice none 0 0, .bool false, .int .i64 0, .int .i64 0] 96) = w0 := h0.symm
    have hs0 : Src w0 B S [] := h.keep (by rw [h0]; exact Below.heap_alloc _ _ _ hS) (by rw [h0]; exact (Below.refl _ _).alloc (Nat.le_trans h.bS (Nat.le_of_lt hS)) _)
    have hc0 : ChS S w w0 := by rw [h0]; exact (Chg.refl _ _).alloc _
    have Hc0 := Lib.hid hc0
    have hBS := h.bS
    have N1 := Lib.hid (take_no hs0 1 1 rfl (by simp))
    clear h h0 hs0 hc0
    generalize hg : w.heap.size = g at *
    go_enter Try.func59, Try.ntmps59
    go_wp2_with fail
    refine N1.out.mono ?_
    rintro e w1 ⟨rfl, rfl⟩
    go_wp2_with fail
    exact ⟨rfl, rfl, Hc0.out⟩
  | cons t r =>
    have ht := h.lt t (List.mem_cons_self ..)
    have hrlt : ∀ x ∈ r, x < 256 := fun x hx => h.lt x (List.mem_cons_of_mem _ hx)
    obtain ⟨w0, h0⟩ : ∃ x, x = w.alloc (.cells #[.slice none 0 0, .bool false, .int .i64 0, .int .i64 0] 96) := ⟨_, rfl⟩
    have hS := h.lt_heap
    have e0 : w.alloc (.cells #[.slice none 0 0, .bool false, .int .i64 0, .int .i64 0] 96) = w0 := h0.symm
    have hs0 : Src w0 B S (t :: r) := h.keep (by rw [h0]; exact Below.heap_alloc _ _ _ hS) (by rw [h0]; exact (Below.refl _ _).alloc (Nat.le_trans h.bS (Nat.le_of_lt hS)) _)
    have hc0 : ChS S w w0 := by rw [h0]; exact (Chg.refl _ _).alloc _
    have Hc0 := Lib.hid hc0
    have hBS := h.bS
    cases ha : Lz.added r (t / 16) with
    | none =>
      have N1 := Lib.hid (take1 hs0)
      clear h h0 hs0 hc0
      generalize hg : w.heap.size = g at *
      go_enter Try.func59, Try.ntmps59
      go_wp2_with fail
      refine N1.out.mono ?_
      rintro e w1 ⟨b, o, c, rfl, hb, hcell, hs1, hc1⟩
      have Hc1 := Lib.hid (Hc0.out.then_ hc1)
      have N2 := Lib.hid (fun z hz => length_no hs1 (s := t / 16) (by omega) ha z hz)
      clear hs1 hc1 Hc0 N1
      go_wp2_with fail
      refine (N2.out _ (by omega)).mono ?_
      rintro e w2 ⟨rfl, hc2⟩
      go_wp2_with fail
      exact ⟨rfl, rfl, Hc1.out.then_ hc2⟩
    | some pr =>
      obtain ⟨lits, q⟩ := pr
      by_cases h1 : q.length < lits
      · skip
        have N1 := Lib.hid (take1 hs0)
        clear h h0 hs0 hc0
        generalize hg : w.heap.size = g at *
        go_enter Try.func59, Try.ntmps59
        go_wp2_with fail
        refine N1.out.mono ?_
        rintro e w1 ⟨b, o, c, rfl, hb, hcell, hs1, hc1⟩
        have Hc1 := Lib.hid (Hc0.out.then_ hc1)
        have N2 := Lib.hid (fun z hz => length_ok hs1 (s := t / 16) (by omega) ha z hz)
        clear hs1 hc1 Hc0 N1
        go_wp2_with fail
        refine (N2.out _ (by omega)).mono ?_
        rintro e w2 ⟨rfl, hs2, hc2⟩
        have Hc2 := Lib.hid (Hc1.out.then_ hc2)
        have N3 := Lib.hid (take_no hs2 lits lits rfl h1)
        clear hs2 hc2 Hc1 N2 hcell
        go_wp2_with fail
        refine N3.out.mono ?_
        rintro e w3 ⟨rfl, rfl⟩
        go_wp2_with fail
        exact ⟨rfl, rfl, Hc2.out⟩
      by_cases h2 : q.length = lits
      · rw [Lz.next_last ha h2] at hn; cases hn
      by_cases h3 : q.length = lits + 1
      · skip
        have N1 := Lib.hid (take1 hs0)
        clear h h0 hs0 hc0
        generalize hg : w.heap.size = g at *
        go_enter Try.func59, Try.ntmps59
        go_wp2_with fail
        refine N1.out.mono ?_
        rintro e w1 ⟨b, o, c, rfl, hb, hcell, hs1, hc1⟩
        have Hc1 := Lib.hid (Hc0.out.then_ hc1)
        have N2 := Lib.hid (fun z hz => length_ok hs1 (s := t / 16) (by omega) ha z hz)
        clear hs1 hc1 Hc0 N1
        go_wp2_with fail
        refine (N2.out _ (by omega)).mono ?_
        rintro e w2 ⟨rfl, hs2, hc2⟩
        have Hc2 := Lib.hid (Hc1.out.then_ hc2)
        have N3 := Lib.hid (take_ok hs2 lits lits rfl (by omega))
        clear hs2 hc2 Hc1 N2 hcell
        go_wp2_with fail
        refine N3.out.mono ?_
        rintro e w3 ⟨A3, c3, rfl, hk3, hA3, hsl3, hs3, hc3⟩
        have Hc3 := Lib.hid (Hc2.out.then_ hc3)
        obtain ⟨A4, c4, hblk4, _⟩ := hs3.ex
        have k0 : w3.cell? ⟨S, 0, none⟩ = some (.slice A4 (q.drop lits).length c4) := hblk4.cell 0
        have N4 := Lib.hid (take_no hs3 2 2 rfl (by rw [List.length_drop]; omega))
        rw [show (q.drop lits).length = 1 by rw [List.length_drop]; omega] at k0
        clear hs3 hsl3 hblk4 hc3 N3 Hc2
        go_wp2_with fail
        refine N4.out.mono ?_
        rintro e w4 ⟨rfl, rfl⟩
        go_wp2_with fail
        exact ⟨rfl, rfl, Hc3.out⟩
      have hd := Lz.drop_two (q := q) (k := lits) (by omega)
      cases hb2 : Lz.added (q.drop (lits + 2)) (t % 16) with
      | some pr2 =>
        obtain ⟨many2, q2⟩ := pr2
        rw [Lz.next_more ha (by omega) hd hb2] at hn
        cases hn
      | none =>
        have hqlt : ∀ x ∈ q, x < 256 := fun x hx => hrlt x (by rw [(Lz.added_len ha).2.2] at hx; exact List.mem_of_mem_drop hx)
        have Hb2' := Lib.hid hb2
        have Hd := Lib.hid hd
        clear hb2 hd
        have N1 := Lib.hid (take1 hs0)
        clear h h0 hs0 hc0
        generalize hg : w.heap.size = g at *
        go_enter Try.func59, Try.ntmps59
        go_wp2_with fail
        refine N1.out.mono ?_
        rintro e w1 ⟨b, o, c, rfl, hb, hcell, hs1, hc1⟩
        have Hc1 := Lib.hid (Hc0.out.then_ hc1)
        have N2 := Lib.hid (fun z hz => length_ok hs1 (s := t / 16) (by omega) ha z hz)
        clear hs1 hc1 Hc0 N1
        go_wp2_with fail
        refine (N2.out _ (by omega)).mono ?_
        rintro e w2 ⟨rfl, hs2, hc2⟩
        have Hc2 := Lib.hid (Hc1.out.then_ hc2)
        have N3 := Lib.hid (take_ok hs2 lits lits rfl (by omega))
        clear hs2 hc2 Hc1 N2 hcell
        go_wp2_with fail
        refine N3.out.mono ?_
        rintro e w3 ⟨A3, c3, rfl, hk3, hA3, hsl3, hs3, hc3⟩
        have Hc3 := Lib.hid (Hc2.out.then_ hc3)
        have hx0 := getB_lt hqlt lits
        have hx1 := getB_lt hqlt (lits + 1)
        rw [Hd.out] at hs3
        generalize q.getD lits 0 = x0 at *
        generalize q.getD (lits + 1) 0 = x1 at *
        obtain ⟨A4, c4, hblk4, _⟩ := hs3.ex
        have k0 : w3.cell? ⟨S, 0, none⟩ = some (.slice A4 (x0 :: x1 :: q.drop (lits + 2)).length c4) := hblk4.cell 0
        generalize hN : (x0 :: x1 :: q.drop (lits + 2)).length = N at *
        have hN2 : 2 ≤ N := by rw [← hN]; simp
        have hne' : ((N : Int) == 0) = false := by rw [beq_eq_false_iff_ne]; omega
        have N4 := Lib.hid (take2 hs3)
        clear hs3 hsl3 hblk4 hc3 N3 Hc2 hN
        go_wp2_with fail
        refine N4.out.mono ?_
        rintro e w4 ⟨b4, o4, c4', rfl, hb4, y0, y1, hs4, hc4⟩
        have o8 := or8 hx0 hx1
        have a15 := and15b ht
        have hs4d : Src w4.drew B S (q.drop (lits + 2)) := hs4.keep rfl ⟨rfl, rfl, rfl, Nat.le_refl _, fun _ _ => rfl⟩
        have N5 := Lib.hid (length_no hs4d (s := t % 16) (by omega) Hb2'.out ((t : Int) % 16) (by omega))
        have Hc4 := Lib.hid ((Hc3.out.then_ hc4).then_ ((Chg.refl (fun b => b = S) w4).drew))
        have hw0 : IntKind.i64.wrap (x0 : Int) = (x0 : Int) := by rw [IntKind.wrap_i64]; omega
        have hw1 : IntKind.i64.wrap (x1 : Int) = (x1 : Int) := by rw [IntKind.wrap_i64]; omega
        have hw2 : IntKind.i64.wrap ((x1 : Int) * 256) = (x1 : Int) * 256 := by rw [IntKind.wrap_i64]; omega
        clear hs4 hs4d hc4 N4 Hc3
        go_wp2_with fail
        go_region_with (first
          | (go_at_call 67; ((with_reducible refine N5.out.mono ?_); rintro e w5 ⟨rfl, hc5⟩; refine panic_here (P := Try.prog) w5 ⟨rfl, rfl, Hc4.out.then_ hc5⟩ ?_)))
        all_goals trivial

set_option maxRecDepth 4000 in
set_option maxHeartbeats 4000000 in
theorem seq_last {w : World} {B S : Nat} {l ls : List Nat} (h : Src w B S l) (hn : Lz.next l = some (ls, none)) :
    Calls Try.prog 59 #[.pointer (some ⟨S, 0, none⟩)] w (SeqR B S ls true 0 0 [] w) := by
  cases l with
  | nil => cases hn
  | cons t r =>
    cases ha : Lz.added r (t / 16) with
    | none => rw [Lz.next_none ha] at hn; cases hn
    | some pr =>
      obtain ⟨lits, q⟩ := pr
      by_cases h1 : q.length < lits
      · rw [Lz.next_short ha h1] at hn; cases hn
      by_cases h2 : q.length = lits
      · rw [Lz.next_last ha h2] at hn
        injection hn with hn; injection hn with hn _
        subst hn
        have ht := h.lt t (List.mem_cons_self ..)
        obtain ⟨w0, h0⟩ : ∃ x, x = w.alloc (.cells #[.slice none 0 0, .bool false, .int .i64 0, .int .i64 0] 96) := ⟨_, rfl⟩
        have hS := h.lt_heap
        have e0 : w.alloc (.cells #[.slice none 0 0, .bool false, .int .i64 0, .int .i64 0] 96) = w0 := h0.symm
        have hs0 : Src w0 B S (t :: r) := h.keep (by rw [h0]; exact Below.heap_alloc _ _ _ hS) (by rw [h0]; exact (Below.refl _ _).alloc (Nat.le_trans h.bS (Nat.le_of_lt hS)) _)
        have hc0 : ChS S w w0 := by rw [h0]; exact (Chg.refl _ _).alloc _
        have hb0 : Blk w0 w.heap.size 96 #[.slice none 0 0, .bool false, .int .i64 0, .int .i64 0] := by rw [h0]; exact Blk.new _ _ _
        have N1 := Lib.hid (take1 hs0)
        have Hc0 := Lib.hid hc0
        have Hb0 := Lib.hid hb0
        clear h h0 hs0 hc0 hb0
        generalize hg : w.heap.size = g at *
        go_enter Try.func59, Try.ntmps59
        go_wp2_with fail
        refine N1.out.mono ?_
        rintro e w1 ⟨b, o, c, rfl, hb, hcell, hs1, hc1⟩
        have N2 := Lib.hid (fun z hz => length_ok hs1 (s := t / 16) (by omega) ha z hz)
        have Hb1 := Lib.hid (Hb0.out.keep (hc1.block _ Hb0.out.lt (by omega)))
        have Hc1 := Lib.hid (Hc0.out.then_ hc1)
        clear hs1 hc1 Hb0 Hc0 N1
        go_wp2_with fail
        refine (N2.out _ (by omega)).mono ?_
        rintro e w2 ⟨rfl, hs2, hc2⟩
        have N3 := Lib.hid (take_ok hs2 lits lits rfl (by omega))
        have Hb2 := Lib.hid (Hb1.out.keep (hc2.block _ Hb1.out.lt (by omega)))
        have Hc2 := Lib.hid (Hc1.out.then_ hc2)
        clear hs2 hc2 Hb1 Hc1 N2 hcell
        go_wp2_with fail
        refine N3.out.mono ?_
        rintro e w3 ⟨A3, c3, rfl, hk3, hA3, hsl3, hs3, hc3⟩
        have Hb3 := Lib.hid (Hb2.out.keep (hc3.block _ Hb2.out.lt (by omega)))
        have Hc3 := Lib.hid (Hc2.out.then_ hc3)
        have hq0 : q.drop lits = [] := List.drop_eq_nil_of_le (by omega)
        rw [hq0] at hs3
        obtain ⟨A4, c4, hblk4, _⟩ := hs3.ex
        have k0 : w3.cell? ⟨S, 0, none⟩ = some (.slice A4 0 c4) := hblk4.cell 0
        have g0 := Hb3.out.cell 0
        have g1 := Hb3.out.cell 1
        have g2 := Hb3.out.cell 2
        have g3 := Hb3.out.cell 3
        have f0 := Hb3.out.frozen 0
        have f1 := Hb3.out.frozen 1
        have f2 := Hb3.out.frozen 2
        have f3 := Hb3.out.frozen 3
        simp at g0 g1 g2 g3
        have Hs3 := Lib.hid hs3
        have Hsl3 := Lib.hid hsl3
        clear hs3 hsl3 hblk4 hc3 N3 Hb2 Hc2 hq0
        go_wp2_with fail
        have E4 := set4 Hb3.out (.slice A3 lits c3) (.bool true) (.int .i64 0) (.int .i64 0)
        have y0 := E4.cell 0
        have y1 := E4.cell 1
        have y2 := E4.cell 2
        have y3 := E4.cell 3
        simp only [List.getElem?_toArray, List.getElem?_cons_zero, List.getElem?_cons_succ] at y0 y1 y2 y3
        have hend := seq_end (ls := q) hg hS Hc3.out Hs3.out (by have := Hsl3.out; rwa [List.take_of_length_le (by omega)] at this) h2 hk3 hA3 true 0 0
        generalize ((((w3.setCell ⟨g, 0, none⟩ (.slice A3 lits c3)).setCell ⟨g, 1, none⟩ (.bool true)).setCell ⟨g, 2, none⟩ (.int .i64 0)).setCell ⟨g, 3, none⟩ (.int .i64 0)) = W4 at *
        refine bodyPost_ret ?_ rfl hend
        simp [results, Try.results59]
        go_simp
      by_cases h3 : q.length = lits + 1
      · rw [Lz.next_one ha h3] at hn; cases hn
      have hd := Lz.drop_two (q := q) (k := lits) (by omega)
      cases hb : Lz.added (q.drop (lits + 2)) (t % 16) with
      | none => rw [Lz.next_more_none ha (by omega) hd hb] at hn; cases hn
      | some pr2 =>
        obtain ⟨many, q2⟩ := pr2
        rw [Lz.next_more ha (by omega) hd hb] at hn
        cases hn
set_option maxRecDepth 4000 in
set_option maxHeartbeats 4000000 in
theorem seq_more {w : World} {B S : Nat} {l ls r' : List Nat} {back many : Nat} (h : Src w B S l) (hn : Lz.next l = some (ls, some (back, many, r'))) :
    Calls Try.prog 59 #[.pointer (some ⟨S, 0, none⟩)] w (SeqR B S ls false (back : Int) ((many + 4 : Nat) : Int) r' w) := by
  cases l with
  | nil => cases hn
  | cons t r =>
    cases ha : Lz.added r (t / 16) with
    | none => rw [Lz.next_none ha] at hn; cases hn
    | some pr =>
      obtain ⟨lits, q⟩ := pr
      by_cases h1 : q.length < lits
      · rw [Lz.next_short ha h1] at hn; cases hn
      by_cases h2 : q.length = lits
      · rw [Lz.next_last ha h2] at hn; cases hn
      by_cases h3 : q.length = lits + 1
      · rw [Lz.next_one ha h3] at hn; cases hn
      have hd := Lz.drop_two (q := q) (k := lits) (by omega)
      cases hb2 : Lz.added (q.drop (lits + 2)) (t % 16) with
      | none => rw [Lz.next_more_none ha (by omega) hd hb2] at hn; cases hn
      | some pr2 =>
        obtain ⟨many2, q2⟩ := pr2
        rw [Lz.next_more ha (by omega) hd hb2] at hn
        injection hn with hn; injection hn with hn1 hn; injection hn with hn; injection hn with hn2 hn; injection hn with hn3 hn4
        subst hn1; subst hn2; subst hn3; subst hn4
        have Hb2' := Lib.hid hb2
        have Hd := Lib.hid hd
        clear hb2 hd
        have ht := h.lt t (List.mem_cons_self ..)
        obtain ⟨w0, h0⟩ : ∃ x, x = w.alloc (.cells #[.slice none 0 0, .bool false, .int .i64 0, .int .i64 0] 96) := ⟨_, rfl⟩
        have hS := h.lt_heap
        have e0 : w.alloc (.cells #[.slice none 0 0, .bool false, .int .i64 0, .int .i64 0] 96) = w0 := h0.symm
        have hs0 : Src w0 B S (t :: r) := h.keep (by rw [h0]; exact Below.heap_alloc _ _ _ hS) (by rw [h0]; exact (Below.refl _ _).alloc (Nat.le_trans h.bS (Nat.le_of_lt hS)) _)
        have hc0 : ChS S w w0 := by rw [h0]; exact (Chg.refl _ _).alloc _
        have hb0 : Blk w0 w.heap.size 96 #[.slice none 0 0, .bool false, .int .i64 0, .int .i64 0] := by rw [h0]; exact Blk.new _ _ _
        have N1 := Lib.hid (take1 hs0)
        have Hc0 := Lib.hid hc0
        have Hb0 := Lib.hid hb0
        have hBS := h.bS
        have hqlt : ∀ x ∈ q, x < 256 := fun x hx => h.lt x (List.mem_cons_of_mem _ (by rw [(Lz.added_len ha).2.2] at hx; exact List.mem_of_mem_drop hx))
        clear h h0 hs0 hc0 hb0
        generalize hg : w.heap.size = g at *
        go_enter Try.func59, Try.ntmps59
        go_wp2_with fail
        refine N1.out.mono ?_
        rintro e w1 ⟨b, o, c, rfl, hb, hcell, hs1, hc1⟩
        have N2 := Lib.hid (fun z hz => length_ok hs1 (s := t / 16) (by omega) ha z hz)
        have Hb1 := Lib.hid (Hb0.out.keep (hc1.block _ Hb0.out.lt (by omega)))
        have Hc1 := Lib.hid (Hc0.out.then_ hc1)
        clear hs1 hc1 Hb0 Hc0 N1
        go_wp2_with fail
        refine (N2.out _ (by omega)).mono ?_
        rintro e w2 ⟨rfl, hs2, hc2⟩
        have N3 := Lib.hid (take_ok hs2 lits lits rfl (by omega))
        have Hb2 := Lib.hid (Hb1.out.keep (hc2.block _ Hb1.out.lt (by omega)))
        have Hc2 := Lib.hid (Hc1.out.then_ hc2)
        clear hs2 hc2 Hb1 Hc1 N2 hcell
        go_wp2_with fail
        refine N3.out.mono ?_
        rintro e w3 ⟨A3, c3, rfl, hk3, hA3, hsl3, hs3, hc3⟩
        have Hb3 := Lib.hid (Hb2.out.keep (hc3.block _ Hb2.out.lt (by omega)))
        have Hc3 := Lib.hid (Hc2.out.then_ hc3)
        have hlb : many2 ≤ 15 + 255 * 100000 := by
          have := Lz.added_bound (fun x hx => hqlt x (List.mem_of_mem_drop hx)) Hb2'.out
          have h5 := hs3.len
          rw [List.length_drop] at this h5
          omega
        have hx0 := getB_lt hqlt lits
        have hx1 := getB_lt hqlt (lits + 1)
        rw [Hd.out] at hs3
        generalize q.getD lits 0 = x0 at *
        generalize q.getD (lits + 1) 0 = x1 at *
        have hne : (((x0 : Nat) :: x1 :: q.drop (lits + 2)).length == 0) = false := by simp
        obtain ⟨A4, c4, hblk4, _⟩ := hs3.ex
        have k0 : w3.cell? ⟨S, 0, none⟩ = some (.slice A4 (x0 :: x1 :: q.drop (lits + 2)).length c4) := hblk4.cell 0
        generalize hN : (x0 :: x1 :: q.drop (lits + 2)).length = N at *
        have hN2 : 2 ≤ N := by rw [← hN]; simp
        have hne' : ((N : Int) == 0) = false := by rw [beq_eq_false_iff_ne]; omega
        have N4 := Lib.hid (take2 hs3)
        have Hsl3 := Lib.hid hsl3
        clear hs3 hsl3 hblk4 hc3 N3 Hb2 Hc2 hN
        go_wp2_with fail
        refine N4.out.mono ?_
        rintro e w4 ⟨b4, o4, c4', rfl, hb4, y0, y1, hs4, hc4⟩
        have o8 := or8 hx0 hx1
        have a15 := and15b ht
        have hs4d : Src w4.drew B S (q.drop (lits + 2)) := hs4.keep rfl ⟨rfl, rfl, rfl, Nat.le_refl _, fun _ _ => rfl⟩
        have Hb4 := Lib.hid (Hb3.out.keep (hc4.block _ Hb3.out.lt (by omega)))
        have N5 := Lib.hid ((length_ok hs4d (s := t % 16) (by omega) Hb2'.out ((t : Int) % 16) (by omega)).mono fun e w' h => (by
          have hc : ChS S w4 w' := ((Chg.refl (fun b => b = S) w4).drew).then_ h.2.2
          have hbg := Hb4.out.keep (hc.block g Hb4.out.lt (by omega))
          exact ⟨h.1, hbg.cell 0, hbg.cell 1, hbg.cell 2, hbg.cell 3, hbg.frozen 0, hbg.frozen 1, hbg.frozen 2, hbg.frozen 3, h.2.1, hc, hc.mono fun _ e => .inl e⟩ : e = .returned (.int .i64 (many2 : Int)) ∧ w'.cell? ⟨g, 0, none⟩ = some (.slice none 0 0) ∧ w'.cell? ⟨g, 1, none⟩ = some (.bool false) ∧ w'.cell? ⟨g, 2, none⟩ = some (.int .i64 0) ∧ w'.cell? ⟨g, 3, none⟩ = some (.int .i64 0) ∧ w'.frozen? ⟨g, 0, none⟩ = false ∧ w'.frozen? ⟨g, 1, none⟩ = false ∧ w'.frozen? ⟨g, 2, none⟩ = false ∧ w'.frozen? ⟨g, 3, none⟩ = false ∧ Src w' B S q2 ∧ ChS S w4 w' ∧ Chg (fun b => b = S ∨ b = g) w4 w'))
        have Hc4 := Lib.hid (Hc3.out.then_ hc4)
        have Hsl4 := Lib.hid (Hsl3.out.below (Chg.below hc4 (B := B) (by have := Hb3.out.lt; omega) (fun i hi => by omega)))
        have Kp := Lib.hid (show ∀ w', Chg (fun b => b = S ∨ b = g) w4 w' → w'.cell? ⟨b4, o4, none⟩ = some (.int .u8 (x0 : Int)) ∧ w'.cell? ⟨b4, o4 + 1, none⟩ = some (.int .u8 (x1 : Int)) from fun w' h => by
          have hbl : w'.heap[b4]? = w4.heap[b4]? := h.block b4 (by have := Hb4.out.lt; omega) (by omega)
          exact ⟨(World.cell?_of_block hbl).trans y0, (World.cell?_of_block hbl).trans y1⟩)
        have hw4g := Hb4.out.lt
        have Kq := Lib.hid (fun w' (h : Chg (fun b => b = S ∨ b = g) w4 w') a b c d => set4_chg' (g := g) h (.inr rfl) a b c d)
        have hc5 : Chg (fun b => b = S ∨ b = g) w4 w4.drew := (Chg.refl _ _).drew
        have hw0 : IntKind.i64.wrap (x0 : Int) = (x0 : Int) := by rw [IntKind.wrap_i64]; omega
        have hw1 : IntKind.i64.wrap (x1 : Int) = (x1 : Int) := by rw [IntKind.wrap_i64]; omega
        have hw2 : IntKind.i64.wrap ((x1 : Int) * 256) = (x1 : Int) * 256 := by rw [IntKind.wrap_i64]; omega
        have hsum : IntKind.i64.wrap ((many2 : Int) + 4) = (many2 : Int) + 4 := by rw [IntKind.wrap_i64]; omega
        clear hs4 hs4d hc4 N4 Hb3 Hc3 Hsl3
        go_wp2_with fail
        go_region_held_law (fun w' => w'.cell? ⟨b4, o4, none⟩ = some (.int .u8 (x0 : Int)) ∧ w'.cell? ⟨b4, o4 + 1, none⟩ = some (.int .u8 (x1 : Int))) (first | exact Kp.out _ hc5 | exact Kp.out _ (Kq.out _ hc5 _ _ _ _)) (first
          | (go_at_call 67; ((with_reducible refine N5.out.mono ?_); rintro e w5 ⟨rfl, g0, g1, g2, g3, f0, f1, f2, f3, hs5, hcs5, hc5⟩)))
        go_wp2_with fail
        have Hb5 := Lib.hid (Hb4.out.keep (hcs5.block _ Hb4.out.lt (by omega)))
        have E4 := set4 Hb5.out (.slice A3 lits c3) (.bool false) (.int .i64 ((x0 : Int) + (x1 : Int) * 256)) (.int .i64 ((many2 : Int) + 4))
        have z0 := E4.cell 0
        have z1 := E4.cell 1
        have z2 := E4.cell 2
        have z3 := E4.cell 3
        simp only [List.getElem?_toArray, List.getElem?_cons_zero, List.getElem?_cons_succ] at z0 z1 z2 z3
        have hend := seq_end (ls := q.take lits) hg hS (Hc4.out.then_ hcs5) hs5 (Hsl4.out.below (Chg.below hcs5 (B := B) (by omega) (fun i hi => by omega))) (by rw [List.length_take]; omega) hk3 hA3 false ((x0 : Int) + (x1 : Int) * 256) ((many2 : Int) + 4)
        rw [show (((x0 + x1 * 256 : Nat)) : Int) = (x0 : Int) + (x1 : Int) * 256 by omega, show (((many2 + 4 : Nat)) : Int) = (many2 : Int) + 4 by omega]
        generalize ((((w5.setCell ⟨g, 0, none⟩ (.slice A3 lits c3)).setCell ⟨g, 1, none⟩ (.bool false)).setCell ⟨g, 2, none⟩ (.int .i64 ((x0 : Int) + (x1 : Int) * 256))).setCell ⟨g, 3, none⟩ (.int .i64 ((many2 : Int) + 4))) = W4 at *
        refine bodyPost_ret ?_ rfl hend
        simp [results, Try.results59]
        go_simp
end Go.Proofs.Ytnkgcibdibgmjaa

namespace Go.Proofs.Ytnkgcibdibgmjaa
open Go.RowKit

set_option maxRecDepth 4000 in
set_option maxHeartbeats 4000000 in
theorem repeat_any {w : World} {B n c : Nat} {A : Option Addr} {o : List Nat} (h : OwnB w B A n c o) (hB : B ≤ w.heap.size) (ho : ∀ x ∈ o, x < 256) (back size : Nat) (zb zs : Int) (hzb : zb = (back : Int)) (hzs : zs = (size : Int)) (h0 : 0 < back) (hbn : back ≤ n) (hs : n + size ≤ 100000) :
    Calls Try.prog 60 #[.slice A n c, .int .i64 zb, .int .i64 zs] w fun e w' => ∃ A' c', e = .returned (.slice A' (n + size) c') ∧ OwnB w' B A' (n + size) c' (Lz.copyB o back size) ∧ Below B w w' := by
  subst hzb; subst hzs
  obtain ⟨i0, hi0, hz0, hs0, hb0⟩ := byte_parts (P := Try.prog) (e := 5) (by kernel_rfl)
  have H := Lib.hid h
  have Hlo := Lib.hid (ownB_len h)
  have Ho := Lib.hid ho
  clear h ho
  go_enter Try.func60, Try.ntmps60
  go_wp2_with fail
  go_loopw [0, 8] (fun v i wr => ∃ (k : Nat) (A' : Option Addr) (c' : Nat), k ≤ size ∧ i = .int .i64 k ∧ v = .slice A' (n + k) c' ∧ OwnB wr B A' (n + k) c' (Lz.copyB o back k) ∧ Below B w wr) (fun _ i _ => size - (intOf i).toNat)
  case atStart => exact ⟨0, A, c, Nat.zero_le _, rfl, rfl, H.out, Below.refl _ _⟩
  case round =>
    obtain ⟨k, A5, c5, hk, rfl, rfl, hm5, hb5⟩ := hrel
    have M5 := Lib.hid hm5
    have B5 := Lib.hid hb5
    have hwB : B ≤ wr.heap.size := Nat.le_trans hB hb5.size
    by_cases hkm : k < size
    · have q9 : decide ((k : Int) < (size : Int)) = true := by rw [decide_eq_true_eq]; omega
      have q9' : decide (k < size) = true := by rw [decide_eq_true_eq]; omega
      have hlen5 := ownB_len hm5
      obtain ⟨ix, hix⟩ : ∃ ix : Nat, ix = n + k - back := ⟨_, rfl⟩
      have hixi : (n : Int) + (k : Int) - (back : Int) = (ix : Int) := by omega
      have hixb : ix < n + k := by omega
      obtain ⟨b5, o5, rfl, c5x⟩ := sl_cell (Sl.of_own hm5) (k := ix) (by omega)
      have hn5 := Lib.hid (Lz.copyB_next back k o)
      rw [hlen5, ← hix] at hn5
      have hx5 := getB_lt (Lz.copyB_lt (back := back) (k := k) Ho.out) ix
      obtain ⟨X, hX⟩ : ∃ X, X = Lz.copyB o back k := ⟨_, rfl⟩
      rw [← hX] at hn5 M5 c5x hx5
      have HX := Lib.hid hX
      clear hX hm5 hlen5 hb5
      generalize hy : X.getD ix 0 = y at *
      have hal : Below wr.heap.size wr (wr.alloc (.cells #[.int .u8 (y : Int)] 5)) := (Below.refl _ _).alloc (Nat.le_refl _) _
      have Mz := Lib.hid (show OwnB (wr.alloc (.cells #[.int .u8 (y : Int)] 5)) B (some ⟨b5, o5, none⟩) (n + k) c5 X from own_keep M5.out fun b _ hlt => hal.block b hlt)
      have Bz := Lib.hid (B5.out.trans (hal.mono hwB))
      have Sz := Lib.hid (sl_cells (w := wr) (cs := #[.int .u8 (y : Int)]) (l := [y]) rfl)
      have hwB2 : B ≤ (wr.alloc (.cells #[.int .u8 (y : Int)] 5)).heap.size := Nat.le_trans hwB hal.size
      have Hix := Lib.hid hix
      clear hy M5 hix hal B5
      go_wp2_with (at_builtin; refine wpList_append_sl (base := B) _ rfl (.tmp 10) (.tmp 18) _ rfl Try.underlying22 hi0 hz0 hs0 hb0 rfl rfl Mz.out rfl (byts_length [y]).symm (by simp) Sz.out (byts_one _) (by rw [byts_length]; exact Nat.le_refl _) (by rw [byts_length]; unfold maxLen; simp; omega) (by rw [byts_length]; simp; omega) hwB2 ?_; intro v6 w6 h1 h2 _; obtain ⟨A6, c6, rfl, m6, b6⟩ := ownB_app Mz.out hwB2 (r := [y]) rfl (show n + k + 1 = n + (k + 1) from rfl) h1 h2; have M6 := Lib.hid m6; have B6 := Lib.hid (Bz.out.trans b6); clear h1 h2 m6 b6)
      go_roundw
      case rel => exact ⟨k + 1, A6, c6, by omega, by go_num, rfl, by rw [hn5.out]; exact M6.out, B6.out⟩
      case measure => simp [intOf]; omega
    · have hkm4 : k = size := by omega
      have q9 : decide ((k : Int) < (size : Int)) = false := by rw [decide_eq_false_iff_not]; omega
      have q9' : decide (k < size) = false := by rw [decide_eq_false_iff_not]; omega
      subst hkm4
      clear hm5 hkm hb5
      go_wp2_with fail
      go_ret
      exact ⟨A5, c5, rfl, M5.out, B5.out⟩

/-- How decode ends. -/
def DecR (R : List Nat × Nat) (S : Nat) (W : World) (e : Ending) (w' : World) : Prop :=
  ChS S W w' ∧ ((∃ A c, e = .returned (.tuple #[.slice A R.1.length c, .int .i64 (R.2 : Int)]) ∧ OwnB w' W.heap.size A R.1.length c R.1 ∧ (∀ x ∈ R.1, x < 256) ∧ R.1.length ≤ 1000000) ∨ (e = errShort ∧ R = ([], 2)))
theorem decR_no {R : List Nat × Nat} {S E : Nat} {w w' : World} (h : R = ([], E)) (hb : ChS S w w') : DecR R S w (.returned (.tuple #[.slice none 0 0, .int .i64 (E : Int)])) w' := by
  subst h
  exact ⟨hb, .inl ⟨none, 0, rfl, World.ownsRow_nil _ _ _ _, by simp, by simp⟩⟩
theorem decR_ok {R : List Nat × Nat} {S : Nat} {w w' : World} {o : List Nat} {A : Option Addr} {n c : Nat} (h : R = (o, 0)) (hm : OwnB w' w.heap.size A n c o) (hl : ∀ x ∈ o, x < 256) (hn : n ≤ 1000000) (hb : ChS S w w') : DecR R S w (.returned (.tuple #[.slice A n c, .int .i64 0])) w' := by
  subst h
  have hlen := ownB_len hm
  subst hlen
  exact ⟨hb, .inl ⟨A, c, rfl, hm, hl, hn⟩⟩

/-- Between two sequences. -/
structure Dec (W wr : World) (B S n : Nat) (R : List Nat × Nat) (f : Nat) (l o : List Nat) (A : Option Addr) (m c : Nat) : Prop where
  src : Src wr B S l
  own : OwnB wr W.heap.size A m c o
  lt : ∀ x ∈ o, x < 256
  chg : ChS S W wr
  mn : m ≤ n
  fuel : l.length ≤ f
  is : Lz.unp n f l o = R

/-- A sequence has been taken (its variable is block G), its literals are not yet appended, or are (o and the row tell). -/
structure Mid (W w : World) (B S G : Nat) (A1 : Option Addr) (L c1 : Nat) (last : Bool) (back T : Int) (ls rest o : List Nat) (A : Option Addr) (m c : Nat) : Prop where
  src : Src w B S rest
  own : OwnB w W.heap.size A m c o
  lits : Sl w B A1 (byts ls)
  cells : Blk w G 96 #[.slice A1 L c1, .bool last, .int .i64 back, .int .i64 T]
  far : (Value.slice A m c).ownBlock ≠ some G
  hG : W.heap.size ≤ G
  hS : S < W.heap.size
  chg : ChS S W w
section
variable {W w w' : World} {B S G L c1 m c : Nat} {A1 A : Option Addr} {last : Bool} {back T : Int} {ls rest o : List Nat}
theorem Mid.c0 (h : Mid W w B S G A1 L c1 last back T ls rest o A m c) : w.cell? ⟨G, 0, none⟩ = some (.slice A1 L c1) := h.cells.cell 0
theorem Mid.c1' (h : Mid W w B S G A1 L c1 last back T ls rest o A m c) : w.cell? ⟨G, 1, none⟩ = some (.bool last) := h.cells.cell 1
theorem Mid.c2 (h : Mid W w B S G A1 L c1 last back T ls rest o A m c) : w.cell? ⟨G, 2, none⟩ = some (.int .i64 back) := h.cells.cell 2
theorem Mid.c3 (h : Mid W w B S G A1 L c1 last back T ls rest o A m c) : w.cell? ⟨G, 3, none⟩ = some (.int .i64 T) := h.cells.cell 3
theorem mid_of {wr w1 w2 : World} {n f : Nat} {R : List Nat × Nat} {l : List Nat} (D : Dec W wr B S n R f l o A m c) (hS : S < W.heap.size) (hsl : Sl w1 B A1 (byts ls)) (hs : Src w1 B S rest) (hc : ChS S wr w1) (hG : w1.heap.size = G)
    (h2 : w2 = w1.alloc (.cells #[.slice A1 L c1, .bool last, .int .i64 back, .int .i64 T] 96)) : Mid W w2 B S G A1 L c1 last back T ls rest o A m c := by
  subst h2; subst hG
  have h1 : S < w1.heap.size := hs.lt_heap
  have hal : Below w1.heap.size w1 (w1.alloc (.cells #[.slice A1 L c1, .bool last, .int .i64 back, .int .i64 T] 96)) := (Below.refl _ _).alloc (Nat.le_refl _) _
  have hB : B ≤ w1.heap.size := Nat.le_trans hs.bS (Nat.le_of_lt h1)
  have hsz := D.chg.size
  have hsz1 := hc.size
  refine ⟨hs.keep (hal.block S h1) (hal.mono hB), own_keep D.own fun b hb hlt => ?_, hsl.below (hal.mono hB), Blk.new _ _ _, ?_, by omega, hS, (D.chg.then_ hc).alloc _⟩
  · rw [hal.block b (by omega)]
    exact hc.block b hlt (by have := (D.own.lt b hb).1; omega)
  · intro hk
    have := (D.own.lt _ hk).2
    omega
theorem mid_app (h : Mid W w B S G A1 L c1 last back T ls rest o A m c) {v' : Value} {K : Nat} (hL : ls.length = L) (hK : m + L = K) (h1 : w'.ownsRow W.heap.size 5 1 v' (m + (byts ls).length) (byts o ++ byts ls)) (h2 : w.grownBy w' (Value.slice A m c).ownBlock) (h3 : v'.ownBlock = (Value.slice A m c).ownBlock ∨ v'.ownBlock = some w.heap.size) :
    ∃ A' c', v' = .slice A' K c' ∧ Mid W w' B S G A1 L c1 last back T ls rest (o ++ ls) A' K c' := by
  have hW : W.heap.size ≤ w.heap.size := h.chg.size
  obtain ⟨A', c', rfl, ho, hb⟩ := ownB_app h.own hW hL hK h1 h2
  have hBW : B ≤ W.heap.size := Nat.le_trans h.src.bS (Nat.le_of_lt h.hS)
  refine ⟨A', c', rfl, h.src.keep (hb.block S h.hS) (hb.mono hBW), ho, h.lits.below (hb.mono hBW), h.cells.grown h2 h.far, ?_, h.hG, h.hS, h.chg.grown h2 fun k hk => .inr (h.own.lt k hk).1⟩
  rcases h3 with h3 | h3
  · rw [h3]; exact h.far
  · rw [h3]
    intro hk
    have := h.cells.lt
    injection hk with hk
    omega
end

set_option maxRecDepth 8000 in
set_option maxHeartbeats 8000000 in
theorem decode_any {W : World} {B S : Nat} {l : List Nat} (h : Src W B S l) (hSW : S < W.heap.size) (n : Nat) (hn : n ≤ 4096) :
    Calls Try.prog 49 #[.pointer (some ⟨S, 0, none⟩), .int .i64 (n : Int)] W (DecR (Lz.unp n l.length l []) S W) := by
  obtain ⟨i0, hi0, hz0, hs0, hb0⟩ := byte_parts (P := Try.prog) (e := 5) (by kernel_rfl)
  obtain ⟨w0, hmk, hown0, hgr0⟩ := run_make_own (P := Try.prog) W W.heap.size 22 5 i0 (.int .u8 0) 1 Try.underlying22 hi0 hz0 hs0 .i64 .i64 n (by rw [hb0]; omega) (by unfold maxLen; omega) (Nat.le_refl _)
  obtain ⟨R, hR⟩ : ∃ R, R = Lz.unp n l.length l [] := ⟨_, rfl⟩
  have hc0 : ChS S W w0 := (Chg.refl _ _).grown hgr0 (fun k hk => by simp at hk)
  have H0 := Lib.hid (show Dec W w0 B S n R l.length l [] (some ⟨W.heap.size, 0, none⟩) 0 n from
    ⟨h.keep (hgr0.block S hSW (by simp)) ((Below.refl B W).grown hgr0 (Nat.le_trans h.bS (Nat.le_of_lt hSW)) (fun k hk => by simp at hk)), hown0, by simp, hc0, Nat.zero_le _, Nat.le_refl _, hR.symm⟩)
  rw [← hR]
  clear hR hc0 hown0 hgr0 h
  go_enter Try.func49, Try.ntmps49
  go_wp2_with fail
  go_loopg [6] l.length (fun f v wr => ∃ (q o : List Nat) (A' : Option Addr) (m c' : Nat), v = .slice A' m c' ∧ Dec W wr B S n R f q o A' m c')
  case atStart => exact ⟨l, [], _, 0, n, rfl, H0.out⟩
  case round =>
    obtain ⟨q, o, A, m, c, rfl, hd⟩ := hrel
    have D := Lib.hid hd
    clear hd H0 hmk
    cases hnx : Lz.next q with
    | none =>
      have hr : R = ([], 2) := by
        rw [← D.out.is]
        cases gk with
        | zero =>
          have : q = [] := List.eq_nil_of_length_eq_zero (by have := D.out.fuel; omega)
          subst this; rfl
        | succ f => rw [Lz.unp_next, hnx]
      have HR := Lib.hid hr
      have N := Lib.hid (seq_no D.out.src hnx)
      clear hr hnx
      go_wp2_with fail
      refine N.out.mono ?_
      rintro e w1 ⟨rfl, hc1⟩
      go_wp2_with fail
      exact ⟨rfl, D.out.chg.then_ hc1, .inr ⟨rfl, HR.out⟩⟩
    | some pr =>
      obtain ⟨ls, mo⟩ := pr
      obtain ⟨f, rfl⟩ : ∃ f, gk = f + 1 := ⟨gk - 1, by
        have := D.out.fuel
        cases q with
        | nil => cases hnx
        | cons x q => rw [List.length_cons] at this; omega⟩
      cases mo with
      | none =>
        have N := Lib.hid (seq_last D.out.src hnx)
        have hr := D.out.is
        rw [Lz.unp_next, hnx] at hr
        simp only at hr
        have HR := Lib.hid hr
        have Hlt := Lib.hid (Lz.next_lt hnx D.out.src.lt)
        clear hr hnx
        go_wp2_with fail
        refine N.out.mono ?_
        rintro e w1 ⟨A1, c1, rfl, hlc, hA1, hsl1, hs1, hc1⟩
        obtain ⟨L, hL⟩ : ∃ L, L = ls.length := ⟨_, rfl⟩
        rw [← hL] at hlc ⊢
        have HL := Lib.hid hL
        clear hL
        go_upto_region 3 with fail
        have hL := HL.out
        generalize h2 : w1.alloc (.cells #[.slice A1 L c1, .bool true, .int .i64 0, .int .i64 0] 96) = w2 at *
        generalize hG : w1.heap.size = G at *
        have M := Lib.hid (mid_of (L := L) (c1 := c1) (last := true) (back := 0) (T := 0) D.out hSW hsl1 hs1 hc1 hG h2.symm)
        have hmn := D.out.mn
        have hlo := ownB_len D.out.own
        have hr := HR.out
        rw [hlo, ← hL] at hr
        have Hlo := Lib.hid hlo
        have HLs := Lib.hid hL.symm
        have Hlo2 := Lib.hid D.out.lt
        have Lq := Lib.hid (show (byts ls).length = L by rw [byts_length]; exact hL.symm)
        have x0 := M.out.c0
        have x1 := M.out.c1'
        have hsz2 : W.heap.size ≤ w2.heap.size := M.out.chg.size
        clear hsl1 hs1 hc1 h2 hlo hL D N HR
        by_cases hlong : n - m < L
        · rw [if_pos hlong] at hr
          have Hr := Lib.hid hr.symm
          have p4 : decide ((n : Int) - (m : Int) < (L : Int)) = true := by rw [decide_eq_true_eq]; omega
          clear hr
          go_wp2_with fail
          go_returns
          exact decR_no Hr.out M.out.chg
        rw [if_neg hlong] at hr
        have p4 : decide ((n : Int) - (m : Int) < (L : Int)) = false := by rw [decide_eq_false_iff_not]; omega
        obtain ⟨K, hK⟩ : ∃ K : Nat, K = m + L := ⟨_, rfl⟩
        rw [← hK] at hr
        have HK := Lib.hid hK
        have hKn : K ≤ n := by omega
        have hmK : m + L ≤ 4096 := by omega
        have Hbyt := Lib.hid (show ∀ x ∈ o ++ ls, x < 256 from fun x hx => by
          rcases List.mem_append.1 hx with h | h
          · exact Hlo2.out x h
          · exact Hlt.out x h)
        by_cases hsh : K < n
        · rw [if_pos hsh] at hr
          have Hr := Lib.hid hr.symm
          have p5 : decide ((K : Int) < (n : Int)) = true := by rw [decide_eq_true_eq]; omega
          have p5' : decide (K < n) = true := by simpa using hsh
          clear hr hK
          go_wp2_with (at_builtin; refine wpList_append_sl (base := W.heap.size) _ rfl (.tmp 20) (.tmp 22) _ rfl Try.underlying22 hi0 hz0 hs0 hb0 rfl rfl M.out.own rfl Lq.out.symm hA1 M.out.lits (byts_one _) (by rw [Lq.out]; omega) (by rw [Lq.out]; unfold maxLen; omega) (by rw [Lq.out]; omega) hsz2 ?_; intro v3 w3 h1 h2 h3; obtain ⟨A3, c3, rfl, m3⟩ := mid_app M.out HLs.out HK.out.symm h1 h2 h3; have M3 := Lib.hid m3; have y1 := M3.out.c1'; clear h1 h2 h3 m3)
          go_returns
          exact decR_no Hr.out M3.out.chg
        · rw [if_neg hsh] at hr
          have Hr := Lib.hid hr.symm
          have p5 : decide ((K : Int) < (n : Int)) = false := by rw [decide_eq_false_iff_not]; omega
          have p5' : decide (K < n) = false := by simpa using hsh
          clear hr hK
          go_wp2_with (at_builtin; refine wpList_append_sl (base := W.heap.size) _ rfl (.tmp 20) (.tmp 22) _ rfl Try.underlying22 hi0 hz0 hs0 hb0 rfl rfl M.out.own rfl Lq.out.symm hA1 M.out.lits (byts_one _) (by rw [Lq.out]; omega) (by rw [Lq.out]; unfold maxLen; omega) (by rw [Lq.out]; omega) hsz2 ?_; intro v3 w3 h1 h2 h3; obtain ⟨A3, c3, rfl, m3⟩ := mid_app M.out HLs.out HK.out.symm h1 h2 h3; have M3 := Lib.hid m3; have y1 := M3.out.c1'; clear h1 h2 h3 m3)
          go_returns
          exact decR_ok Hr.out M3.out.own Hbyt.out (by omega) M3.out.chg
      | some tr =>
        obtain ⟨back, many, q'⟩ := tr
        have N := Lib.hid (seq_more D.out.src hnx)
        have hr := D.out.is
        rw [Lz.unp_next, hnx] at hr
        simp only at hr
        have HR := Lib.hid hr
        have Hlt := Lib.hid (Lz.next_lt hnx D.out.src.lt)
        have hless := Lz.next_less hnx
        have hfu := D.out.fuel
        clear hr hnx
        generalize hT : many + 4 = T at *
        go_wp2_with fail
        refine N.out.mono ?_
        rintro e w1 ⟨A1, c1, rfl, hlc, hA1, hsl1, hs1, hc1⟩
        obtain ⟨L, hL⟩ : ∃ L, L = ls.length := ⟨_, rfl⟩
        obtain ⟨w2, h2⟩ : ∃ x, x = w1.alloc (.cells #[.slice A1 L c1, .bool false, .int .i64 (back : Int), .int .i64 (T : Int)] 96) := ⟨_, rfl⟩
        have e2 : w1.alloc (.cells #[.slice A1 L c1, .bool false, .int .i64 (back : Int), .int .i64 (T : Int)] 96) = w2 := h2.symm
        generalize hG : w1.heap.size = G at *
        have M := Lib.hid (mid_of (L := L) (c1 := c1) (last := false) (back := (back : Int)) (T := (T : Int)) D.out hSW hsl1 hs1 hc1 hG h2)
        have hmn := D.out.mn
        have hlo := ownB_len D.out.own
        have hr := HR.out
        rw [hlo, ← hL] at hr
        rw [← hL] at hlc ⊢
        have Hlo := Lib.hid hlo
        have HLs := Lib.hid hL.symm
        have Hlo2 := Lib.hid D.out.lt
        have Lq := Lib.hid (show (byts ls).length = L by rw [byts_length]; exact hL.symm)
        have x0 := M.out.c0
        have x1 := M.out.c1'
        have hsz2 : W.heap.size ≤ w2.heap.size := M.out.chg.size
        clear hsl1 hs1 hc1 h2 hlo hL D N HR
        by_cases hlong : n - m < L
        · rw [if_pos hlong] at hr
          have Hr := Lib.hid hr.symm
          have p4 : decide ((n : Int) - (m : Int) < (L : Int)) = true := by rw [decide_eq_true_eq]; omega
          clear hr
          go_wp2_with fail
          go_returns
          exact decR_no Hr.out M.out.chg
        rw [if_neg hlong] at hr
        have p4 : decide ((n : Int) - (m : Int) < (L : Int)) = false := by rw [decide_eq_false_iff_not]; omega
        obtain ⟨K, hK⟩ : ∃ K : Nat, K = m + L := ⟨_, rfl⟩
        rw [← hK] at hr
        have HK := Lib.hid hK
        have hKn : K ≤ n := by omega
        have hmK : m + L ≤ 4096 := by omega
        have Hbyt := Lib.hid (show ∀ x ∈ o ++ ls, x < 256 from fun x hx => by
          rcases List.mem_append.1 hx with h | h
          · exact Hlo2.out x h
          · exact Hlt.out x h)
        by_cases hform : back = 0 ∨ K < back
        · rw [if_pos hform] at hr
          have Hr := Lib.hid hr.symm
          clear hr hK
          rcases hform with h0 | h1
          · have p6 : ((back : Int) == 0) = true := by rw [beq_iff_eq]; omega
            have p6' : (back == 0) = true := by rw [beq_iff_eq]; omega
            clear h0
            go_wp2_with (at_builtin; refine wpList_append_sl (base := W.heap.size) _ rfl (.tmp 20) (.tmp 22) _ rfl Try.underlying22 hi0 hz0 hs0 hb0 rfl rfl M.out.own rfl Lq.out.symm hA1 M.out.lits (byts_one _) (by rw [Lq.out]; omega) (by rw [Lq.out]; unfold maxLen; omega) (by rw [Lq.out]; omega) hsz2 ?_; intro v3 w3 h1 h2 h3; obtain ⟨A3, c3, rfl, m3⟩ := mid_app M.out HLs.out HK.out.symm h1 h2 h3; have M3 := Lib.hid m3; have y1 := M3.out.c1'; have y2 := M3.out.c2; have y3 := M3.out.c3; clear h1 h2 h3 m3)
            go_returns
            exact decR_no Hr.out M3.out.chg
          · have p6 : ((back : Int) == 0) = false := by rw [beq_eq_false_iff_ne]; omega
            have p6' : (back == 0) = false := by rw [beq_eq_false_iff_ne]; omega
            have p7 : decide ((K : Int) < (back : Int)) = true := by rw [decide_eq_true_eq]; omega
            have p7' : decide (K < back) = true := by rw [decide_eq_true_eq]; omega
            clear h1
            go_wp2_with (at_builtin; refine wpList_append_sl (base := W.heap.size) _ rfl (.tmp 20) (.tmp 22) _ rfl Try.underlying22 hi0 hz0 hs0 hb0 rfl rfl M.out.own rfl Lq.out.symm hA1 M.out.lits (byts_one _) (by rw [Lq.out]; omega) (by rw [Lq.out]; unfold maxLen; omega) (by rw [Lq.out]; omega) hsz2 ?_; intro v3 w3 h1 h2 h3; obtain ⟨A3, c3, rfl, m3⟩ := mid_app M.out HLs.out HK.out.symm h1 h2 h3; have M3 := Lib.hid m3; have y1 := M3.out.c1'; have y2 := M3.out.c2; have y3 := M3.out.c3; clear h1 h2 h3 m3)
            go_returns
            exact decR_no Hr.out M3.out.chg
        rw [if_neg hform] at hr
        have hb0' : 0 < back := by omega
        have hbK : back ≤ K := by omega
        have p6 : ((back : Int) == 0) = false := by rw [beq_eq_false_iff_ne]; omega
        have p6' : (back == 0) = false := by rw [beq_eq_false_iff_ne]; omega
        have p7 : decide ((K : Int) < (back : Int)) = false := by rw [decide_eq_false_iff_not]; omega
        have p7' : decide (K < back) = false := by rw [decide_eq_false_iff_not]; omega
        by_cases hlong2 : n - K < T
        · rw [if_pos hlong2] at hr
          have Hr := Lib.hid hr.symm
          have p8 : decide ((n : Int) - (K : Int) < (T : Int)) = true := by rw [decide_eq_true_eq]; omega
          clear hr hK hform
          go_wp2_with (at_builtin; refine wpList_append_sl (base := W.heap.size) _ rfl (.tmp 20) (.tmp 22) _ rfl Try.underlying22 hi0 hz0 hs0 hb0 rfl rfl M.out.own rfl Lq.out.symm hA1 M.out.lits (byts_one _) (by rw [Lq.out]; omega) (by rw [Lq.out]; unfold maxLen; omega) (by rw [Lq.out]; omega) hsz2 ?_; intro v3 w3 h1 h2 h3; obtain ⟨A3, c3, rfl, m3⟩ := mid_app M.out HLs.out HK.out.symm h1 h2 h3; have M3 := Lib.hid m3; have y1 := M3.out.c1'; have y2 := M3.out.c2; have y3 := M3.out.c3; clear h1 h2 h3 m3)
          go_returns
          exact decR_no Hr.out M3.out.chg
        rw [if_neg hlong2] at hr
        have Hr := Lib.hid hr
        have p8 : decide ((n : Int) - (K : Int) < (T : Int)) = false := by rw [decide_eq_false_iff_not]; omega
        have hKT : K + T ≤ n := by omega
        clear hr hK hform
        go_wp2_with (at_builtin; refine wpList_append_sl (base := W.heap.size) _ rfl (.tmp 20) (.tmp 22) _ rfl Try.underlying22 hi0 hz0 hs0 hb0 rfl rfl M.out.own rfl Lq.out.symm hA1 M.out.lits (byts_one _) (by rw [Lq.out]; omega) (by rw [Lq.out]; unfold maxLen; omega) (by rw [Lq.out]; omega) hsz2 ?_; intro v3 w3 h1 h2 h3; obtain ⟨A3, c3, rfl, m3⟩ := mid_app M.out HLs.out HK.out.symm h1 h2 h3; have M3 := Lib.hid m3; have y1 := M3.out.c1'; have y2 := M3.out.c2; have y3 := M3.out.c3; clear h1 h2 h3 m3)
        have N3 := Lib.hid (repeat_any M3.out.own M3.out.chg.size Hbyt.out back T (back : Int) (T : Int) rfl rfl hb0' hbK (by omega))
        refine N3.out.mono ?_
        rintro e w4 ⟨A4, c4, rfl, ho4, hb4⟩
        go_wp2_with fail
        go_roundg f
        case rel => exact ⟨q', Lz.copyB (o ++ ls) back T, A4, K + T, c4, rfl, M3.out.src.keep (hb4.block S hSW) (hb4.mono (Nat.le_trans M3.out.src.bS (Nat.le_of_lt hSW))), ho4, fun x hx => Lz.copyB_lt Hbyt.out x hx, chg_below M3.out.chg hb4, by omega, by omega, Hr.out⟩
        case measure => omega
end Go.Proofs.Ytnkgcibdibgmjaa
