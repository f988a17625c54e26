/- The program's Read: it calls the function that it is given with a reader, and recovers a panic of that reader. -/
import Derived.Test.YtdfelkkibolheaaLaw
import Derived.Test.YtdfelkkibolheaaRd
import Derived.Defers
import Derived.Recover
import Derived.LaidEql
namespace Go.Proofs.Ytdfelkkibolheaa
open Go.RowKit Vint

abbrev errV (k : Int) : Value := .iface 39 (.int .i64 k)
theorem run_eql_errs (k : Int) (w : World) : (binOp .eql 20 (errV k) (errV k)).run Try.prog w = .ok (.bool true) w := by
  have u1 := Try.underlying20
  have u2 := Try.underlying39
  simp only [binOp, Op.equal, Op.maxDepth]
  rw [show (10000 : Nat) = 9998 + 1 + 1 from rfl, Op.equalIn]
  simp only [Sem.run_bind, run_underlying u1, Result.andThen_ok]
  go_simp
  intro h
  have hc : Try.t39.comparable = true := by kernel_rfl
  rw [hc] at h
  cases h
set_option maxRecDepth 8000 in
theorem run_eql_err_nil (k : Int) (w : World) : (binOp .eql 20 (errV k) .nilIface).run Try.prog w = .ok (.bool false) w :=
  run_eql_iface_nil_left w 39 (.int .i64 k) Try.underlying20
theorem catch_quiet (L E : Nat) (w : World) (u : FrameMode) (hL : w.cell? ⟨L, 0, none⟩ = some (.int .i64 0)) :
    CallsD Try.prog 56 #[.pointer (some ⟨L, 0, none⟩), .pointer (some ⟨E, 0, none⟩)] u w fun e u' w' => e = .returned (.tuple #[]) ∧ u' = u ∧ w' = w := by
  refine callsD_of_wpS Try.func56 rfl fun c₀ cs hu => ?_
  simp only [Try.ntmps56, List.size_toArray, List.length_cons, List.length_nil, Nat.reduceAdd, Nat.reduceSub, Array.replicate_succ, Array.replicate_zero, List.push_toArray, List.append_toArray, List.nil_append, List.cons_append]
  refine wpS_seq (wpS_of_wp ?_)
  go_wp2_with fail
  cases c₀
  simp_all [Exit.thenS, bodyPostS, results, Try.results56]
theorem catch_err (L E : Nat) (k : Int) (hk : k ≠ 0) (x : Value) (older : List PanicEntry) (w : World) (hL : w.cell? ⟨L, 0, none⟩ = some (.int .i64 k)) (hE : w.cell? ⟨E, 0, none⟩ = some x) (hz : w.frozen? ⟨E, 0, none⟩ = false) :
    CallsD Try.prog 56 #[.pointer (some ⟨L, 0, none⟩), .pointer (some ⟨E, 0, none⟩)] (.panicking ({ v := errV k, recovered := false } :: older)) w fun e u' w' =>
      e = .returned (.tuple #[]) ∧ u' = .panicking ({ v := errV k, recovered := true } :: older) ∧ w' = w.setCell ⟨E, 0, none⟩ (.int .i64 k) := by
  have q : (k == 0) = false := by simpa using hk
  have e1 := run_eql_errs k
  have e2 := run_eql_err_nil k
  refine callsD_of_wpS Try.func56 rfl fun c₀ cs hu => ?_
  simp only [Try.ntmps56, List.size_toArray, List.length_cons, List.length_nil, Nat.reduceAdd, Nat.reduceSub, Array.replicate_succ, Array.replicate_zero, List.push_toArray, List.append_toArray, List.nil_append, List.cons_append]
  refine wpS_seq (wpS_of_wp ?_)
  go_wp2_with fail
  show Code.wpS _ _ _ _ _ _
  refine wpS_seq (wpS_region ?_)
  simp [wpOpsS, go_sem, recoverD, hu, Exit.thenS]
  refine wpS_of_wp ?_
  go_wp2_with fail
  cases c₀
  simp_all [bodyPostS, results, Try.results56]

theorem run_eql_func (fn : Nat) (cp : Array Value) (w : World) : (binOp .eql 44 (.func (.func fn) #[] cp) .nilFunc).run Try.prog w = .ok (.bool false) w := by kernel_rfl
theorem run_eql_nofunc (w : World) : (binOp .eql 44 .nilFunc .nilFunc).run Try.prog w = .ok (.bool true) w := by kernel_rfl
/-- What the function that Read calls may do: it stores into the blocks X, into the reader, and makes memory. -/
def FX (X : Nat → Prop) (R L : Nat) : Nat → Prop := fun b => X b ∨ RL R L b

theorem cell_at {w : World} {g : Nat} {t : TypeId} {v : Value} (h : Blk w g t #[v]) : w.cell? ⟨g, 0, none⟩ = some v := h.cell 0

/-- Two new cells: Read's answer, and where the reader tells how its last call ended. -/
abbrev W2 (w : World) : World := (w.alloc (.cells #[.int .i64 0] 39)).alloc (.cells #[.int .i64 0] 39)
theorem W2_size (w : World) : (W2 w).heap.size = w.heap.size + 2 := by simp [W2]
theorem W2_below (w : World) : Below w.heap.size w (W2 w) := ((Below.refl _ _).alloc (Nat.le_refl _) _).alloc (by simp) _
/-- The world in which the function is called. -/
theorem read_begin {w w1 : World} {l : List Nat} {A1 : Option Addr} {c1 : Nat} (hb : ∀ x ∈ l, x < 256) (hlen : l.length ≤ 1000000000)
    (ho : w1.ownsRow (W2 w).heap.size 5 1 (.slice A1 l.length c1) l.length (byts l)) (hb1 : Below (W2 w).heap.size (W2 w) w1) {w3 : World} (h3 : w3 = w1.alloc (.cells #[.slice A1 l.length c1, .pointer (some ⟨w.heap.size + 1, 0, none⟩)] 93)) :
    Rd w3 (w.heap.size + 1) w1.heap.size (w.heap.size + 1) l 0 ∧ Blk w3 w.heap.size 39 #[.int .i64 0] ∧ Below w.heap.size w w3 ∧ w.heap.size + 2 ≤ w1.heap.size := by
  subst h3
  have hz := W2_size w
  have hz1 := hb1.size
  have h0 : Blk (W2 w) w.heap.size 39 #[.int .i64 0] := (Blk.new w _ _).alloc _
  have h1 : Blk (W2 w) (w.heap.size + 1) 39 #[.int .i64 0] := by
    have := Blk.new (w.alloc (.cells #[.int .i64 0] 39)) 39 #[.int .i64 0]
    simpa using this
  have h0' : Blk w1 w.heap.size 39 #[.int .i64 0] := h0.keep (hb1.block _ h0.lt)
  have h1' : Blk w1 (w.heap.size + 1) 39 #[.int .i64 0] := h1.keep (hb1.block _ h1.lt)
  refine ⟨⟨by omega, Nat.le_refl _, hb, hlen, h1'.alloc _, A1, c1, Blk.new _ _ _, own_len ho, own_none ho, ?_⟩, h0'.alloc _, ?_, by omega⟩
  · exact (Data.of_own (World.ownsRow_base ho (by omega)) rfl).keep fun b hb _ _ => Below.heap_alloc _ _ _ hb
  · exact ((W2_below w).trans (hb1.mono (by omega))).alloc (by omega) _

/-- Blocks X have changed, and there are new ones; Q holds of a world from which just one new block, the first, differs. -/
def Did (X : Nat → Prop) (Q : World → Prop) (w w' : World) : Prop := ∃ w2, Q w2 ∧ Chg (· = w.heap.size) w2 w' ∧ Chg X w w'

theorem did_of {X : Nat → Prop} {Q : World → Prop} {w w3 w2 w' : World} {R : Nat} (hbw : Below w.heap.size w w3) (hR : w.heap.size + 2 ≤ R) (hc2 : Chg (FX X R (w.heap.size + 1)) w3 w2) (hE : w.heap.size < w3.heap.size) (hq : Q w2) (h : Chg (· = w.heap.size) w2 w') : Did X Q w w' := by
  refine ⟨w2, hq, h, ?_⟩
  have hz := hbw.size
  have hz2 := hc2.size
  have hz3 := h.size
  refine ⟨h.os.trans (hc2.os.trans hbw.os), h.tape.trans (hc2.tape.trans hbw.tape), h.output.trans (hc2.output.trans hbw.output), by omega, fun i hi hx => (h.block i (by omega) (by omega)).trans ((hc2.block i (Nat.lt_of_lt_of_le hi hbw.size) ?_).trans (hbw.block i hi))⟩
  rintro (h | h | h)
  · exact hx h
  · omega
  · omega

theorem below_cell (w w2 : World) (v : Value) : Chg (· = w.heap.size) w2 (w2.setCell ⟨w.heap.size, 0, none⟩ v) := (Chg.refl (fun b => b = w.heap.size) w2).setCell (p := ⟨w.heap.size, 0, none⟩) (.inl rfl) v

set_option maxHeartbeats 2000000 in
theorem read_ret (A : Option Addr) (cap : Nat) (l : List Nat) (w : World) {B : Nat} (hsl : Sl w B A (byts l)) (hB : B ≤ w.heap.size) (hcap : l.length ≤ cap) (hA : A = none → cap = 0) (hb : ∀ x ∈ l, x < 256) (hlen : l.length ≤ 1000000000)
    (fn : Nat) (cp : Array Value) (hen : ∀ a w, (callFunc fn (#[a] ++ cp)).run Try.prog w = .ok (.enter fn (#[a] ++ cp)) w) (X : Nat → Prop) (hX : ∀ b, X b → b < w.heap.size) (l' : List Nat) (Q : World → Prop)
    (hf : ∀ w1 R, Rd w1 (w.heap.size + 1) R (w.heap.size + 1) l 0 → Below w.heap.size w w1 → Calls Try.prog fn (#[.pointer (some ⟨R, 0, none⟩)] ++ cp) w1 fun e w2 =>
      e = .returned (.tuple #[]) ∧ Rd w2 (w.heap.size + 1) R (w.heap.size + 1) l' 0 ∧ Chg (FX X R (w.heap.size + 1)) w1 w2 ∧ Q w2)
    (t : Bool) (z : Int) (ht : decide (0 < l'.length) = t) (hz : z = if t = true then 3 else 0) :
    Calls Try.prog 22 #[.slice A l.length cap, .func (.func fn) #[] cp] w fun e w' => e = .returned (.int .i64 z) ∧ Did X Q w w' := by
  have hmf : ∀ (fn : Fn) (first cap : Array Value) (w : World), (Instr.makeFunc fn first cap).run Try.prog w = .ok (.func fn first cap) w := fun _ _ _ _ => rfl
  have hqf := run_eql_func
  have Hb := Lib.hid (bclone_any A cap l (W2 w) (hsl.below ((W2_below w).mono hB)) (Nat.le_trans hB (W2_below w).size) hcap hA (by omega))
  go_enter_defers Try.func22, Try.ntmps22
  go_wp2_with fail
  refine Hb.out.mono ?_
  rintro e w1 ⟨A1, c1, rfl, hown, hb1⟩
  have Hg := Lib.hid (read_begin hb hlen hown hb1 rfl)
  clear hown hb1
  go_wp2_with fail
  obtain ⟨hrd, hE, hbw, hz1⟩ := Hg.out
  refine (hf _ _ hrd hbw).mono ?_
  rintro e w2 ⟨rfl, hrd2, hc2, hq⟩
  have hE2 := hE.keep (hc2.block _ hE.lt (by
    rintro (h | h | h)
    · exact absurd (hX _ h) (Nat.lt_irrefl _)
    · omega
    · omega))
  have cE := cell_at hE2
  have fE := hE2.frozen 0
  have Hr := Lib.hid (rleft_any hrd2)
  have HX := Lib.hid (fun w' => did_of (w' := w') hbw hz1 hc2 hE.lt hq)
  have HL := Lib.hid hrd2.last
  clear hrd hE hbw hrd2 hc2 hE2 Hg hf hq hX
  have hs0 := fun v => World.cell?_setCell_same w2 ⟨w.heap.size, 0, none⟩ v cE
  have hs1 : ∀ v, (w2.setCell ⟨w.heap.size, 0, none⟩ v).cell? ⟨w.heap.size + 1, 0, none⟩ = some (.int .i64 0) := fun v => (HL.out.far (by simp) v).cell 0
  have Hs0 := Lib.hid hs0
  have Hs1 := Lib.hid hs1
  clear hs0 hs1
  cases t with
  | false =>
    rw [if_neg (by simp)] at hz
    subst hz
    go_wp2_with fail
    refine Hr.out.mono ?_
    rintro e w' ⟨rfl, rfl⟩
    go_wp2_with fail
    refine leaves_cons (f := 56) (args := #[.pointer (some ⟨w.heap.size + 1, 0, none⟩), .pointer (some ⟨w.heap.size, 0, none⟩)]) (by simp) (by simp [go_sem]) ?_
    refine (catch_quiet _ _ _ _ (Hs1.out _)).mono ?_
    rintro e u' w'' ⟨rfl, rfl, rfl⟩
    have h0 := Hs0.out (.int .i64 0)
    simp [Leaves, settle, results, Try.results22, go_sem, h0]
    exact HX.out _ (below_cell w _ _)
  | true =>
    rw [if_pos rfl] at hz
    subst hz
    go_wp2_with fail
    refine Hr.out.mono ?_
    rintro e w' ⟨rfl, rfl⟩
    go_wp2_with fail
    refine leaves_cons (f := 56) (args := #[.pointer (some ⟨w.heap.size + 1, 0, none⟩), .pointer (some ⟨w.heap.size, 0, none⟩)]) (by simp) (by simp [go_sem]) ?_
    refine (catch_quiet _ _ _ _ (Hs1.out _)).mono ?_
    rintro e u' w'' ⟨rfl, rfl, rfl⟩
    have h0 := Hs0.out (.int .i64 3)
    simp [Leaves, settle, results, Try.results22, go_sem, h0]
    exact HX.out _ (below_cell w _ _)

set_option maxHeartbeats 2000000 in
theorem read_errx (A : Option Addr) (cap : Nat) (l : List Nat) (w : World) {B : Nat} (hsl : Sl w B A (byts l)) (hB : B ≤ w.heap.size) (hcap : l.length ≤ cap) (hA : A = none → cap = 0) (hb : ∀ x ∈ l, x < 256) (hlen : l.length ≤ 1000000000)
    (fn : Nat) (cp : Array Value) (hen : ∀ a w, (callFunc fn (#[a] ++ cp)).run Try.prog w = .ok (.enter fn (#[a] ++ cp)) w) (X : Nat → Prop) (hX : ∀ b, X b → b < w.heap.size) (k : Int) (hk : k ≠ 0) (Q : World → Prop)
    (hf : ∀ w1 R, Rd w1 (w.heap.size + 1) R (w.heap.size + 1) l 0 → Below w.heap.size w w1 → Calls Try.prog fn (#[.pointer (some ⟨R, 0, none⟩)] ++ cp) w1 fun e w2 =>
      e = .panicked [{ v := errV k, recovered := false }] ∧ (∃ l', Rd w2 (w.heap.size + 1) R (w.heap.size + 1) l' k) ∧ Chg (FX X R (w.heap.size + 1)) w1 w2 ∧ Q w2) :
    Calls Try.prog 22 #[.slice A l.length cap, .func (.func fn) #[] cp] w fun e w' => e = .returned (.int .i64 k) ∧ Did X Q w w' := by
  have hmf : ∀ (fn : Fn) (first cap : Array Value) (w : World), (Instr.makeFunc fn first cap).run Try.prog w = .ok (.func fn first cap) w := fun _ _ _ _ => rfl
  have hqf := run_eql_func
  have Hb := Lib.hid (bclone_any A cap l (W2 w) (hsl.below ((W2_below w).mono hB)) (Nat.le_trans hB (W2_below w).size) hcap hA (by omega))
  go_enter_defers Try.func22, Try.ntmps22
  go_wp2_with fail
  refine Hb.out.mono ?_
  rintro e w1 ⟨A1, c1, rfl, hown, hb1⟩
  have Hg := Lib.hid (read_begin hb hlen hown hb1 rfl)
  clear hown hb1
  go_wp2_with fail
  obtain ⟨hrd, hE, hbw, hz1⟩ := Hg.out
  refine (hf _ _ hrd hbw).mono ?_
  rintro e w2 ⟨rfl, ⟨l', hrd2⟩, hc2, hq⟩
  have hE2 := hE.keep (hc2.block _ hE.lt (by
    rintro (h | h | h)
    · exact absurd (hX _ h) (Nat.lt_irrefl _)
    · omega
    · omega))
  have cE := cell_at hE2
  have fE := hE2.frozen 0
  have cL := cell_at hrd2.last
  have HX := Lib.hid (fun w' => did_of (w' := w') hbw hz1 hc2 hE.lt hq)
  have hs0 := Lib.hid (World.cell?_setCell_same w2 ⟨w.heap.size, 0, none⟩ (.int .i64 k) cE)
  clear hrd hE hbw hrd2 hc2 hE2 Hg hf hq hX
  go_wp2_with fail
  refine leaves_cons (f := 56) (args := #[.pointer (some ⟨w.heap.size + 1, 0, none⟩), .pointer (some ⟨w.heap.size, 0, none⟩)]) (by simp) (by simp [go_sem]) ?_
  refine (catch_err (w.heap.size + 1) w.heap.size k hk _ [] w2 cL cE fE).mono ?_
  rintro e u' w'' ⟨rfl, rfl, rfl⟩
  have h0 := hs0.out
  simp [Leaves, settle, results, Try.results22, go_sem, h0]
  exact HX.out _ (below_cell w _ _)

theorem read_err (A : Option Addr) (cap : Nat) (l : List Nat) (w : World) {B : Nat} (hsl : Sl w B A (byts l)) (hB : B ≤ w.heap.size) (hcap : l.length ≤ cap) (hA : A = none → cap = 0) (hb : ∀ x ∈ l, x < 256) (hlen : l.length ≤ 1000000000)
    (fn : Nat) (cp : Array Value) (hen : ∀ a w, (callFunc fn (#[a] ++ cp)).run Try.prog w = .ok (.enter fn (#[a] ++ cp)) w) (X : Nat → Prop) (hX : ∀ b, X b → b < w.heap.size) (l' : List Nat) (k : Int) (hk : k ≠ 0) (Q : World → Prop)
    (hf : ∀ w1 R, Rd w1 (w.heap.size + 1) R (w.heap.size + 1) l 0 → Below w.heap.size w w1 → Calls Try.prog fn (#[.pointer (some ⟨R, 0, none⟩)] ++ cp) w1 fun e w2 =>
      e = .panicked [{ v := errV k, recovered := false }] ∧ Rd w2 (w.heap.size + 1) R (w.heap.size + 1) l' k ∧ Chg (FX X R (w.heap.size + 1)) w1 w2 ∧ Q w2) :
    Calls Try.prog 22 #[.slice A l.length cap, .func (.func fn) #[] cp] w fun e w' => e = .returned (.int .i64 k) ∧ Did X Q w w' :=
  read_errx A cap l w hsl hB hcap hA hb hlen fn cp hen X hX k hk Q fun w1 R h1 h2 => (hf w1 R h1 h2).mono fun _ _ ⟨h3, h4, h5⟩ => ⟨h3, ⟨l', h4⟩, h5⟩

/-- A panic of the function's own goes on. -/
def DidPanic (X : Nat → Prop) (Q : World → Prop) (w : World) (v : Value) (e : Ending) (w' : World) : Prop := e = .panicked [{ v := v, recovered := false }] ∧ Did X Q w w'
set_option maxHeartbeats 2000000 in
theorem read_own (A : Option Addr) (cap : Nat) (l : List Nat) (w : World) {B : Nat} (hsl : Sl w B A (byts l)) (hB : B ≤ w.heap.size) (hcap : l.length ≤ cap) (hA : A = none → cap = 0) (hb : ∀ x ∈ l, x < 256) (hlen : l.length ≤ 1000000000)
    (fn : Nat) (cp : Array Value) (hen : ∀ a w, (callFunc fn (#[a] ++ cp)).run Try.prog w = .ok (.enter fn (#[a] ++ cp)) w) (X : Nat → Prop) (l' : List Nat) (v : Value) (Q : World → Prop)
    (hf : ∀ w1 R, Rd w1 (w.heap.size + 1) R (w.heap.size + 1) l 0 → Below w.heap.size w w1 → Calls Try.prog fn (#[.pointer (some ⟨R, 0, none⟩)] ++ cp) w1 fun e w2 =>
      e = .panicked [{ v := v, recovered := false }] ∧ Rd w2 (w.heap.size + 1) R (w.heap.size + 1) l' 0 ∧ Chg (FX X R (w.heap.size + 1)) w1 w2 ∧ Q w2) :
    Calls Try.prog 22 #[.slice A l.length cap, .func (.func fn) #[] cp] w (DidPanic X Q w v) := by
  have hmf : ∀ (fn : Fn) (first cap : Array Value) (w : World), (Instr.makeFunc fn first cap).run Try.prog w = .ok (.func fn first cap) w := fun _ _ _ _ => rfl
  have hqf := run_eql_func
  have Hb := Lib.hid (bclone_any A cap l (W2 w) (hsl.below ((W2_below w).mono hB)) (Nat.le_trans hB (W2_below w).size) hcap hA (by omega))
  go_enter_defers Try.func22, Try.ntmps22
  go_wp2_with fail
  refine Hb.out.mono ?_
  rintro e w1 ⟨A1, c1, rfl, hown, hb1⟩
  have Hg := Lib.hid (read_begin hb hlen hown hb1 rfl)
  clear hown hb1
  go_wp2_with fail
  obtain ⟨hrd, hE, hbw, hz1⟩ := Hg.out
  refine (hf _ _ hrd hbw).mono ?_
  rintro e w2 ⟨rfl, hrd2, hc2, hq⟩
  have cL := cell_at hrd2.last
  have HX := Lib.hid (fun w' => did_of (w' := w') hbw hz1 hc2 hE.lt hq)
  clear hrd hE hbw hrd2 hc2 Hg hf hq
  go_wp2_with fail
  refine leaves_cons (f := 56) (args := #[.pointer (some ⟨w.heap.size + 1, 0, none⟩), .pointer (some ⟨w.heap.size, 0, none⟩)]) (by simp) (by simp [go_sem]) ?_
  refine (catch_quiet _ _ _ _ cL).mono ?_
  rintro e u' w'' ⟨rfl, rfl, rfl⟩
  simp
  exact ⟨rfl, HX.out _ (Chg.refl _ _)⟩

set_option maxHeartbeats 1000000 in
theorem read_nil (v : Value) (w : World) :
    Calls Try.prog 22 #[v, .nilFunc] w fun e w' => e = .returned (.int .i64 1) ∧ Below w.heap.size w w' := by
  have hq := run_eql_nofunc
  go_enter_defers Try.func22, Try.ntmps22
  go_wp2_with fail
  have h : (w.alloc (.cells #[.int .i64 1] 39)).cell? ⟨w.heap.size, 0, none⟩ = some (.int .i64 1) := (cell_fresh rfl).trans rfl
  exact ⟨.int .i64 1, by simp [results, Try.results22, go_sem, h], rfl, (Below.refl _ _).alloc (Nat.le_refl _) _⟩
end Go.Proofs.Ytdfelkkibolheaa
