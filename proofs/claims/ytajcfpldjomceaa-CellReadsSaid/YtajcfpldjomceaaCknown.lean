/- CellKnown returns true; the memory that was there stays as it is. -/
import Derived.Test.YtajcfpldjomceaaCpanics
import Derived.Deep.RegionHeldLaw
import Derived.Lib.ConvBytes
namespace Go.Proofs.Ytajcfpldjomceaa
open Go.RowKit Vint

theorem vint_size {x : Nat} (h : x < 268435456) : (vint x).length = if x < 128 then 1 else if x < 16384 then 2 else if x < 2097152 then 3 else 4 := by
  by_cases h1 : x < 128
  · rw [if_pos h1, vint_low h1]; rfl
  rw [if_neg h1, vint_high (by omega)]
  by_cases h2 : x < 16384
  · rw [if_pos h2, vint_low (by omega)]; rfl
  rw [if_neg h2, vint_high (by omega)]
  by_cases h3 : x < 2097152
  · rw [if_pos h3, vint_low (by omega)]; rfl
  rw [if_neg h3, vint_high (by omega), vint_low (by omega)]; rfl
def kin (k : Nat) : Nat := [0, 1, 127, 128, 16383, 16384, 2097151, 2097152, 268435455].getD k 0
def ksz (k : Nat) : Nat := [1, 1, 1, 2, 2, 3, 3, 4, 4].getD k 0
theorem kin_lt : ∀ k, k < 9 → kin k < 268435456 := by decide
theorem kin_len (k : Nat) (h : k < 9) : (vint (kin k)).length = ksz k := by
  rw [vint_size (kin_lt k h)]
  have : ∀ k, k < 9 → (if kin k < 128 then 1 else if kin k < 16384 then 2 else if kin k < 2097152 then 3 else 4) = ksz k := by decide
  exact this k h

set_option maxHeartbeats 1000000 in
theorem known1_any {w : World} {B R L x m : Nat} (h : Rd w B R L (vint m) 0) (hm : m < 268435456) (hx : Blk w x 3 #[.int .i64 (-1)]) (hxB : x < B) :
    Calls Try.prog 28 #[.pointer (some ⟨R, 0, none⟩), .pointer (some ⟨x, 0, none⟩)] w fun e w' =>
      e = .returned (.tuple #[]) ∧ Rd w' B R L [] 0 ∧ Chg (FX (fun b => b = x) R L) w w' ∧ Blk w' x 3 #[.int .i64 (m : Int)] := by
  have c1 := rnum_ok h (by rw [num_whole hm])
  rw [num_whole hm] at c1
  have C1 := Lib.hid c1
  have hB := h.bR
  have hBL := h.bL
  clear c1 h
  go_enter Try.func28, Try.ntmps28
  go_wp2_with fail
  refine C1.out.mono ?_
  rintro e w1 ⟨rfl, h1, hc1⟩
  rw [List.drop_length] at h1
  have hx1 := hx.keep (hc1.block x hx.lt (by rintro (h | h) <;> omega))
  have cx := cell_at hx1
  have fx := hx1.frozen 0
  have H1 := Lib.hid h1
  have Hc1 := Lib.hid hc1
  have Hx1 := Lib.hid hx1
  clear h1 hc1 hx1
  go_wp2_with fail
  have hcx : Chg (fun b => b = x) w1 (w1.setCell ⟨x, 0, none⟩ (.int .i64 (m : Int))) := (Chg.refl (fun b => b = x) w1).setCell (p := ⟨x, 0, none⟩) (.inl rfl) _
  refine bodyPost_end (results_none rfl _ _ _) rfl ?_
  refine ⟨rfl, H1.out.keep hcx (fun b hb => by omega), (Hc1.out.mono fun _ h => .inr h).then_ (hcx.mono fun _ h => .inl h), ?_⟩
  have := Hx1.out.set_ 0 (.int .i64 (m : Int))
  simpa using this
def KnownR (x m : Nat) (w : World) (e : Ending) (w' : World) : Prop := e = .returned (.int .i64 0) ∧ Blk w' x 3 #[.int .i64 (m : Int)] ∧ Chg (fun b => b = x) w w'
theorem known1_read {w : World} {x m B c1 : Nat} {A1 : Option Addr} (hm : m < 268435456) (hx : Blk w x 3 #[.int .i64 (-1)]) (hs1 : Sl w B A1 (byts (vint m))) (hB : B ≤ w.heap.size) (hc1 : (vint m).length ≤ c1) (hA1 : A1 = none → c1 = 0) :
    Calls Try.prog 16 #[.slice A1 (vint m).length c1, .func (.func 28) #[] #[.pointer (some ⟨x, 0, none⟩)]] w (KnownR x m w) := by
  have hxl := hx.lt
  have hvl := vint_len hm
  refine (read_ret A1 c1 (vint m) w hs1 hB hc1 hA1 (vint_byte m) (by omega) 28 #[.pointer (some ⟨x, 0, none⟩)] (fun a w => by kernel_rfl) (fun b => b = x) (fun b hb => by omega) [] (fun w => Blk w x 3 #[.int .i64 (m : Int)]) ?_ false 0 rfl rfl).mono ?_
  · intro w1 R hr hb
    exact known1_any hr hm (hx.keep (hb.block x hx.lt)) (by omega)
  · rintro e w' ⟨rfl, w2, h3, hk, hch⟩
    exact ⟨rfl, h3.keep (hk.block x h3.lt (by omega)), hch⟩

/-- What reading one number of l, and nothing more, answers. -/
def oneE (l : List Nat) : Nat := if (num l).2.2 ≠ 0 then (num l).2.2 else if (num l).2.1 < l.length then 3 else 0
set_option maxHeartbeats 1000000 in
theorem known2_ok {w : World} {B R L : Nat} {l : List Nat} (h : Rd w B R L l 0) (h0 : (num l).2.2 = 0) :
    Calls Try.prog 29 #[.pointer (some ⟨R, 0, none⟩)] w fun e w' =>
      e = .returned (.tuple #[]) ∧ Rd w' B R L (l.drop (num l).2.1) 0 ∧ Chg (FX (fun _ => False) R L) w w' ∧ True := by
  have C1 := Lib.hid (rnum_ok h h0)
  clear h h0
  go_enter Try.func29, Try.ntmps29
  go_wp2_with fail
  refine C1.out.mono ?_
  rintro e w1 ⟨rfl, h1, hc1⟩
  go_wp2_with fail
  refine bodyPost_end (results_none rfl _ _ _) rfl ?_
  exact ⟨rfl, h1, hc1.mono fun _ h => .inr h, trivial⟩
set_option maxHeartbeats 1000000 in
theorem known2_bad {w : World} {B R L : Nat} {l : List Nat} (h : Rd w B R L l 0) (h0 : (num l).2.2 ≠ 0) :
    Calls Try.prog 29 #[.pointer (some ⟨R, 0, none⟩)] w fun e w' =>
      e = .panicked [{ v := errV ((num l).2.2 : Int), recovered := false }] ∧ Rd w' B R L l ((num l).2.2 : Int) ∧ Chg (FX (fun _ => False) R L) w w' ∧ True := by
  have C1 := Lib.hid (rnum_bad h h0)
  clear h h0
  go_enter Try.func29, Try.ntmps29
  go_wp2_with fail
  refine C1.out.mono ?_
  rintro e w1 ⟨rfl, h1, hc1⟩
  go_wp2_with fail
  exact ⟨rfl, rfl, h1, hc1.mono fun _ h => .inr h, trivial⟩
theorem did_none {Q : World → Prop} {w w' : World} (h : Did (fun _ => False) Q w w') : Below w.heap.size w w' := by
  obtain ⟨_, _, _, hc⟩ := h
  exact hc.below (Nat.le_refl _) fun _ h => h.elim
theorem known2_read {w : World} {B c : Nat} {A : Option Addr} {l : List Nat} (hs : Sl w B A (byts l)) (hB : B ≤ w.heap.size) (hc : l.length ≤ c) (hA : A = none → c = 0) (hb : ∀ x ∈ l, x < 256) (hlen : l.length ≤ 1000000) :
    Calls Try.prog 16 #[.slice A l.length c, .func (.func 29) #[] #[]] w fun e w' => e = .returned (.int .i64 (oneE l : Int)) ∧ Below w.heap.size w w' := by
  by_cases h0 : (num l).2.2 = 0
  · have hsz := num_size h0
    by_cases hlt : (num l).2.1 < l.length
    · have he : oneE l = 3 := by unfold oneE; rw [if_neg (by omega), if_pos hlt]
      rw [he]
      exact (read_ret A c l w hs hB hc hA hb (by omega) 29 #[] (fun a w => by kernel_rfl) (fun _ => False) (fun _ h => h.elim) (l.drop (num l).2.1) (fun _ => True) (fun w1 R hr _ => known2_ok hr h0) true 3 (by simp; omega) rfl).mono fun e w' ⟨h1, h2⟩ => ⟨h1, did_none h2⟩
    · have he : oneE l = 0 := by unfold oneE; rw [if_neg (by omega), if_neg hlt]
      rw [he]
      exact (read_ret A c l w hs hB hc hA hb (by omega) 29 #[] (fun a w => by kernel_rfl) (fun _ => False) (fun _ h => h.elim) (l.drop (num l).2.1) (fun _ => True) (fun w1 R hr _ => known2_ok hr h0) false 0 (by simp; omega) rfl).mono fun e w' ⟨h1, h2⟩ => ⟨h1, did_none h2⟩
  · have he : oneE l = (num l).2.2 := by unfold oneE; rw [if_pos h0]
    rw [he]
    exact (read_err A c l w hs hB hc hA hb (by omega) 29 #[] (fun a w => by kernel_rfl) (fun _ => False) (fun _ h => h.elim) l ((num l).2.2 : Int) (by omega) (fun _ => True) (fun w1 R hr _ => known2_bad hr h0)).mono fun e w' ⟨h1, h2⟩ => ⟨h1, did_none h2⟩
/-- Two readings of bytes that fail. -/
theorem bytes_read {w : World} {B c : Nat} {A : Option Addr} {l : List Nat} (hs : Sl w B A (byts l)) (hB : B ≤ w.heap.size) (hc : l.length ≤ c) (hA : A = none → c = 0) (hb : ∀ x ∈ l, x < 256) (hlen : l.length ≤ 1000000) (most : Int) (h0 : rdE most l ≠ 0) (fn : Nat) (hen : ∀ a w, (callFunc fn (#[a] ++ #[])).run Try.prog w = .ok (.enter fn (#[a] ++ #[])) w)
    (hf : ∀ {w : World} {B R L : Nat}, Rd w B R L l 0 → Calls Try.prog fn (#[.pointer (some ⟨R, 0, none⟩)] ++ #[]) w fun e w' => e = .panicked [{ v := errV (rdE most l), recovered := false }] ∧ Rd w' B R L l (rdE most l) ∧ Chg (FX (fun _ => False) R L) w w' ∧ True) :
    Calls Try.prog 16 #[.slice A l.length c, .func (.func fn) #[] #[]] w fun e w' => e = .returned (.int .i64 (rdE most l)) ∧ Below w.heap.size w w' :=
  (read_err A c l w hs hB hc hA hb (by omega) fn #[] hen (fun _ => False) (fun _ h => h.elim) l (rdE most l) h0 (fun _ => True) (fun w1 R hr _ => hf hr)).mono fun e w' ⟨h1, h2⟩ => ⟨h1, did_none h2⟩
set_option maxHeartbeats 1000000 in
theorem known3_any {l : List Nat} (h0 : rdE 1 l ≠ 0) {w : World} {B R L : Nat} (h : Rd w B R L l 0) :
    Calls Try.prog 30 #[.pointer (some ⟨R, 0, none⟩)] w fun e w' =>
      e = .panicked [{ v := errV (rdE 1 l), recovered := false }] ∧ Rd w' B R L l (rdE 1 l) ∧ Chg (FX (fun _ => False) R L) w w' ∧ True := by
  have C1 := Lib.hid (rbytes_bad h 1 h0)
  clear h h0
  go_enter Try.func30, Try.ntmps30
  go_wp2_with fail
  refine C1.out.mono ?_
  rintro e w1 ⟨rfl, h1, hc1⟩
  go_wp2_with fail
  exact ⟨rfl, rfl, h1, hc1.mono fun _ h => .inr h, trivial⟩
set_option maxHeartbeats 1000000 in
theorem known4_any {l : List Nat} (h0 : rdE 5 l ≠ 0) {w : World} {B R L : Nat} (h : Rd w B R L l 0) :
    Calls Try.prog 31 #[.pointer (some ⟨R, 0, none⟩)] w fun e w' =>
      e = .panicked [{ v := errV (rdE 5 l), recovered := false }] ∧ Rd w' B R L l (rdE 5 l) ∧ Chg (FX (fun _ => False) R L) w w' ∧ True := by
  have C1 := Lib.hid (rbytes_bad h 5 h0)
  clear h h0
  go_enter Try.func31, Try.ntmps31
  go_wp2_with fail
  refine C1.out.mono ?_
  rintro e w1 ⟨rfl, h1, hc1⟩
  go_wp2_with fail
  exact ⟨rfl, rfl, h1, hc1.mono fun _ h => .inr h, trivial⟩
theorem known5_any (R : Value) (w : World) : Calls Try.prog 32 #[R] w fun e w' => e = .returned (.tuple #[]) ∧ w' = w := by
  go_enter Try.func32, Try.ntmps32
  go_wp2_with fail
  refine bodyPost_end (results_none rfl _ _ _) rfl ?_
  exact ⟨rfl, rfl⟩
end Go.Proofs.Ytajcfpldjomceaa
