/- The program's Read: it calls the function that it is given with a reader, and recovers a panic of that reader. The document's put, Encode. The document's Encode. The program's writer: what its methods do. The program's writer in a statement's walk: what it leaves alone is told by the kinds of blocks. -/
import Derived.Test.YtaainefdjbmekaaSba
import Derived.Test.YtaainefdjbmekaaSbch
import Derived.Test.YtaainefdjbmekaaSbci
import Derived.Test.YtaainefdjbmekaaSbdb
import Derived.Defers
import Derived.Recover
import Derived.LaidEql
import Derived.Deep.RegionHeldLaw
import Derived.Deep.DeepCutAuto
import Derived.Lib.Hide
import Derived.LoopTactic
import Derived.Laws.BitsAllLaws
namespace Go.Proofs.Ytaainefdjbmekaa
open Go.RowKit Vint
abbrev errV (k : Int) : Value := .iface 34 (.int .i64 k)
theorem run_eql_errs (k : Int) (w : World) : (binOp .eql 20 (errV k) (errV k)).run Try.prog w = .ok (.bool true) w := by
  have u1 := Try.underlying20
  have u2 := Try.underlying34
  simp only [binOp, Op.equal, Op.maxDepth]
  rw [show (10000 : Nat) = 9998 + 1 + 1 from rfl, Op.equalIn]
  simp only [Sem.run_bind, run_underlying u1, Result.andThen_ok]
  go_simp
  intro h
  have hc : Try.t34.comparable = true := by kernel_rfl
  rw [hc] at h
  cases h
set_option maxRecDepth 8000 in
theorem run_eql_err_nil (k : Int) (w : World) : (binOp .eql 20 (errV k) .nilIface).run Try.prog w = .ok (.bool false) w :=
  run_eql_iface_nil_left w 34 (.int .i64 k) Try.underlying20
theorem catch_quiet (L E : Nat) (w : World) (u : FrameMode) (hL : w.cell? ⟨L, 0, none⟩ = some (.int .i64 0)) :
    CallsD Try.prog 89 #[.pointer (some ⟨L, 0, none⟩), .pointer (some ⟨E, 0, none⟩)] u w fun e u' w' => e = .returned (.tuple #[]) ∧ u' = u ∧ w' = w := by
  refine callsD_of_wpS Try.func89 rfl fun c₀ cs hu => ?_
  simp only [Try.ntmps89, List.size_toArray, List.length_cons, List.length_nil, Nat.reduceAdd, Nat.reduceSub, Array.replicate_succ, Array.replicate_zero, List.push_toArray, List.append_toArray, List.nil_append, List.cons_append]
  refine wpS_seq (wpS_of_wp ?_)
  go_wp2_with fail
  cases c₀
  simp_all [Exit.thenS, bodyPostS, results, Try.results89]
theorem catch_err (L E : Nat) (k : Int) (hk : k ≠ 0) (x : Value) (older : List PanicEntry) (w : World) (hL : w.cell? ⟨L, 0, none⟩ = some (.int .i64 k)) (hE : w.cell? ⟨E, 0, none⟩ = some x) (hz : w.frozen? ⟨E, 0, none⟩ = false) :
    CallsD Try.prog 89 #[.pointer (some ⟨L, 0, none⟩), .pointer (some ⟨E, 0, none⟩)] (.panicking ({ v := errV k, recovered := false } :: older)) w fun e u' w' =>
      e = .returned (.tuple #[]) ∧ u' = .panicking ({ v := errV k, recovered := true } :: older) ∧ w' = w.setCell ⟨E, 0, none⟩ (.int .i64 k) := by
  have q : (k == 0) = false := by simpa using hk
  have e1 := run_eql_errs k
  have e2 := run_eql_err_nil k
  refine callsD_of_wpS Try.func89 rfl fun c₀ cs hu => ?_
  simp only [Try.ntmps89, List.size_toArray, List.length_cons, List.length_nil, Nat.reduceAdd, Nat.reduceSub, Array.replicate_succ, Array.replicate_zero, List.push_toArray, List.append_toArray, List.nil_append, List.cons_append]
  refine wpS_seq (wpS_of_wp ?_)
  go_wp2_with fail
  show Code.wpS _ _ _ _ _ _
  refine wpS_seq (wpS_region ?_)
  simp [wpOpsS, go_sem, recoverD, hu, Exit.thenS]
  refine wpS_of_wp ?_
  go_wp2_with fail
  cases c₀
  simp_all [bodyPostS, results, Try.results89]
theorem run_eql_func (fn : Nat) (cp : Array Value) (w : World) : (binOp .eql 141 (.func (.func fn) #[] cp) .nilFunc).run Try.prog w = .ok (.bool false) w := by kernel_rfl
/-- What the function that Read calls may do: it stores into the blocks X, into the reader, and makes memory. -/
def FX (X : Nat → Prop) (R L : Nat) : Nat → Prop := fun b => X b ∨ RL R L b
theorem cell_at {w : World} {g : Nat} {t : TypeId} {v : Value} (h : Blk w g t #[v]) : w.cell? ⟨g, 0, none⟩ = some v := h.cell 0
/-- Two new cells: Read's answer, and where the reader tells how its last call ended. -/
abbrev W2 (w : World) : World := (w.alloc (.cells #[.int .i64 0] 34)).alloc (.cells #[.int .i64 0] 34)
theorem W2_size (w : World) : (W2 w).heap.size = w.heap.size + 2 := by simp [W2]
theorem W2_below (w : World) : Below w.heap.size w (W2 w) := ((Below.refl _ _).alloc (Nat.le_refl _) _).alloc (by simp) _
/-- The world in which the function is called. -/
theorem read_begin {w w1 : World} {l : List Nat} {A1 : Option Addr} {c1 : Nat} (hb : ∀ x ∈ l, x < 256) (hlen : l.length ≤ 1000000000)
    (ho : w1.ownsRow (W2 w).heap.size 5 1 (.slice A1 l.length c1) l.length (byts l)) (hb1 : Below (W2 w).heap.size (W2 w) w1) {w3 : World} (h3 : w3 = w1.alloc (.cells #[.slice A1 l.length c1, .pointer (some ⟨w.heap.size + 1, 0, none⟩)] 151)) :
    Rd w3 (w.heap.size + 1) w1.heap.size (w.heap.size + 1) l 0 ∧ Blk w3 w.heap.size 34 #[.int .i64 0] ∧ Below w.heap.size w w3 ∧ w.heap.size + 2 ≤ w1.heap.size := by
  subst h3
  have hz := W2_size w
  have hz1 := hb1.size
  have h0 : Blk (W2 w) w.heap.size 34 #[.int .i64 0] := (Blk.new w _ _).alloc _
  have h1 : Blk (W2 w) (w.heap.size + 1) 34 #[.int .i64 0] := by
    have := Blk.new (w.alloc (.cells #[.int .i64 0] 34)) 34 #[.int .i64 0]
    simpa using this
  have h0' : Blk w1 w.heap.size 34 #[.int .i64 0] := h0.keep (hb1.block _ h0.lt)
  have h1' : Blk w1 (w.heap.size + 1) 34 #[.int .i64 0] := h1.keep (hb1.block _ h1.lt)
  refine ⟨⟨by omega, Nat.le_refl _, hb, hlen, h1'.alloc _, A1, c1, Blk.new _ _ _, own_len ho, own_none ho, ?_⟩, h0'.alloc _, ?_, by omega⟩
  · exact (Data.of_own (World.ownsRow_base ho (by omega)) rfl).keep fun b hb _ _ => Below.heap_alloc _ _ _ hb
  · exact ((W2_below w).trans (hb1.mono (by omega))).alloc (by omega) _
/-- Blocks X have changed, and there are new ones; Q holds of a world from which just one new block, the first, differs. -/
def Did (X : Nat → Prop) (Q : World → Prop) (w w' : World) : Prop := ∃ w2, Q w2 ∧ Chg (· = w.heap.size) w2 w' ∧ Chg X w w'
theorem did_of {X : Nat → Prop} {Q : World → Prop} {w w3 w2 w' : World} {R : Nat} (hbw : Below w.heap.size w w3) (hR : w.heap.size + 2 ≤ R) (hc2 : Chg (FX X R (w.heap.size + 1)) w3 w2) (hE : w.heap.size < w3.heap.size) (hq : Q w2) (h : Chg (· = w.heap.size) w2 w') : Did X Q w w' := by
  refine ⟨w2, hq, h, ?_⟩
  have hz := hbw.size
  have hz2 := hc2.size
  have hz3 := h.size
  refine ⟨h.os.trans (hc2.os.trans hbw.os), h.tape.trans (hc2.tape.trans hbw.tape), h.output.trans (hc2.output.trans hbw.output), by omega, fun i hi hx => (h.block i (by omega) (by omega)).trans ((hc2.block i (Nat.lt_of_lt_of_le hi hbw.size) ?_).trans (hbw.block i hi))⟩
  rintro (h | h | h)
  · exact hx h
  · omega
  · omega
theorem below_cell (w w2 : World) (v : Value) : Chg (· = w.heap.size) w2 (w2.setCell ⟨w.heap.size, 0, none⟩ v) := (Chg.refl (fun b => b = w.heap.size) w2).setCell (p := ⟨w.heap.size, 0, none⟩) (.inl rfl) v
set_option maxHeartbeats 2000000 in
theorem read_ret (A : Option Addr) (cap : Nat) (l : List Nat) (w : World) {B : Nat} (hsl : Sl w B A (byts l)) (hB : B ≤ w.heap.size) (hcap : l.length ≤ cap) (hA : A = none → cap = 0) (hb : ∀ x ∈ l, x < 256) (hlen : l.length ≤ 1000000000)
    (fn : Nat) (cp : Array Value) (hen : ∀ a w, (callFunc fn (#[a] ++ cp)).run Try.prog w = .ok (.enter fn (#[a] ++ cp)) w) (X : Nat → Prop) (hX : ∀ b, X b → b < w.heap.size) (l' : List Nat) (Q : World → Prop)
    (hf : ∀ w1 R, Rd w1 (w.heap.size + 1) R (w.heap.size + 1) l 0 → Below w.heap.size w w1 → Calls Try.prog fn (#[.pointer (some ⟨R, 0, none⟩)] ++ cp) w1 fun e w2 =>
      e = .returned (.tuple #[]) ∧ Rd w2 (w.heap.size + 1) R (w.heap.size + 1) l' 0 ∧ Chg (FX X R (w.heap.size + 1)) w1 w2 ∧ Q w2)
    (t : Bool) (z : Int) (ht : decide (0 < l'.length) = t) (hz : z = if t = true then 3 else 0) :
    Calls Try.prog 71 #[.slice A l.length cap, .func (.func fn) #[] cp] w fun e w' => e = .returned (.int .i64 z) ∧ Did X Q w w' := by
  have hmf : ∀ (fn : Fn) (first cap : Array Value) (w : World), (Instr.makeFunc fn first cap).run Try.prog w = .ok (.func fn first cap) w := fun _ _ _ _ => rfl
  have hqf := run_eql_func
  have Hb := Lib.hid (bclone_any A cap l (W2 w) (hsl.below ((W2_below w).mono hB)) (Nat.le_trans hB (W2_below w).size) hcap hA (by omega))
  go_enter_defers Try.func71, Try.ntmps71
  go_wp2_with fail
  refine Hb.out.mono ?_
  rintro e w1 ⟨A1, c1, rfl, hown, hb1⟩
  have Hg := Lib.hid (read_begin hb hlen hown hb1 rfl)
  clear hown hb1
  go_wp2_with fail
  obtain ⟨hrd, hE, hbw, hz1⟩ := Hg.out
  refine (hf _ _ hrd hbw).mono ?_
  rintro e w2 ⟨rfl, hrd2, hc2, hq⟩
  have hE2 := hE.keep (hc2.block _ hE.lt (by
    rintro (h | h | h)
    · exact absurd (hX _ h) (Nat.lt_irrefl _)
    · omega
    · omega))
  have cE := cell_at hE2
  have fE := hE2.frozen 0
  have Hr := Lib.hid (rleft_any hrd2)
  have HX := Lib.hid (fun w' => did_of (w' := w') hbw hz1 hc2 hE.lt hq)
  have HL := Lib.hid hrd2.last
  clear hrd hE hbw hrd2 hc2 hE2 Hg hf hq hX
  have hs0 := fun v => World.cell?_setCell_same w2 ⟨w.heap.size, 0, none⟩ v cE
  have hs1 : ∀ v, (w2.setCell ⟨w.heap.size, 0, none⟩ v).cell? ⟨w.heap.size + 1, 0, none⟩ = some (.int .i64 0) := fun v => (HL.out.far (by simp) v).cell 0
  have Hs0 := Lib.hid hs0
  have Hs1 := Lib.hid hs1
  clear hs0 hs1
  cases t with
  | false =>
    rw [if_neg (by simp)] at hz
    subst hz
    go_wp2_with fail
    refine Hr.out.mono ?_
    rintro e w' ⟨rfl, rfl⟩
    go_wp2_with fail
    refine leaves_cons (f := 89) (args := #[.pointer (some ⟨w.heap.size + 1, 0, none⟩), .pointer (some ⟨w.heap.size, 0, none⟩)]) (by simp) (by simp [go_sem]) ?_
    refine (catch_quiet _ _ _ _ (Hs1.out _)).mono ?_
    rintro e u' w'' ⟨rfl, rfl, rfl⟩
    have h0 := Hs0.out (.int .i64 0)
    simp [Leaves, settle, results, Try.results71, go_sem, h0]
    exact HX.out _ (below_cell w _ _)
  | true =>
    rw [if_pos rfl] at hz
    subst hz
    go_wp2_with fail
    refine Hr.out.mono ?_
    rintro e w' ⟨rfl, rfl⟩
    go_wp2_with fail
    refine leaves_cons (f := 89) (args := #[.pointer (some ⟨w.heap.size + 1, 0, none⟩), .pointer (some ⟨w.heap.size, 0, none⟩)]) (by simp) (by simp [go_sem]) ?_
    refine (catch_quiet _ _ _ _ (Hs1.out _)).mono ?_
    rintro e u' w'' ⟨rfl, rfl, rfl⟩
    have h0 := Hs0.out (.int .i64 3)
    simp [Leaves, settle, results, Try.results71, go_sem, h0]
    exact HX.out _ (below_cell w _ _)
set_option maxHeartbeats 2000000 in
theorem read_errx (A : Option Addr) (cap : Nat) (l : List Nat) (w : World) {B : Nat} (hsl : Sl w B A (byts l)) (hB : B ≤ w.heap.size) (hcap : l.length ≤ cap) (hA : A = none → cap = 0) (hb : ∀ x ∈ l, x < 256) (hlen : l.length ≤ 1000000000)
    (fn : Nat) (cp : Array Value) (hen : ∀ a w, (callFunc fn (#[a] ++ cp)).run Try.prog w = .ok (.enter fn (#[a] ++ cp)) w) (X : Nat → Prop) (hX : ∀ b, X b → b < w.heap.size) (k : Int) (hk : k ≠ 0) (Q : World → Prop)
    (hf : ∀ w1 R, Rd w1 (w.heap.size + 1) R (w.heap.size + 1) l 0 → Below w.heap.size w w1 → Calls Try.prog fn (#[.pointer (some ⟨R, 0, none⟩)] ++ cp) w1 fun e w2 =>
      e = .panicked [{ v := errV k, recovered := false }] ∧ (∃ l', Rd w2 (w.heap.size + 1) R (w.heap.size + 1) l' k) ∧ Chg (FX X R (w.heap.size + 1)) w1 w2 ∧ Q w2) :
    Calls Try.prog 71 #[.slice A l.length cap, .func (.func fn) #[] cp] w fun e w' => e = .returned (.int .i64 k) ∧ Did X Q w w' := by
  have hmf : ∀ (fn : Fn) (first cap : Array Value) (w : World), (Instr.makeFunc fn first cap).run Try.prog w = .ok (.func fn first cap) w := fun _ _ _ _ => rfl
  have hqf := run_eql_func
  have Hb := Lib.hid (bclone_any A cap l (W2 w) (hsl.below ((W2_below w).mono hB)) (Nat.le_trans hB (W2_below w).size) hcap hA (by omega))
  go_enter_defers Try.func71, Try.ntmps71
  go_wp2_with fail
  refine Hb.out.mono ?_
  rintro e w1 ⟨A1, c1, rfl, hown, hb1⟩
  have Hg := Lib.hid (read_begin hb hlen hown hb1 rfl)
  clear hown hb1
  go_wp2_with fail
  obtain ⟨hrd, hE, hbw, hz1⟩ := Hg.out
  refine (hf _ _ hrd hbw).mono ?_
  rintro e w2 ⟨rfl, ⟨l', hrd2⟩, hc2, hq⟩
  have hE2 := hE.keep (hc2.block _ hE.lt (by
    rintro (h | h | h)
    · exact absurd (hX _ h) (Nat.lt_irrefl _)
    · omega
    · omega))
  have cE := cell_at hE2
  have fE := hE2.frozen 0
  have cL := cell_at hrd2.last
  have HX := Lib.hid (fun w' => did_of (w' := w') hbw hz1 hc2 hE.lt hq)
  have hs0 := Lib.hid (World.cell?_setCell_same w2 ⟨w.heap.size, 0, none⟩ (.int .i64 k) cE)
  clear hrd hE hbw hrd2 hc2 hE2 Hg hf hq hX
  go_wp2_with fail
  refine leaves_cons (f := 89) (args := #[.pointer (some ⟨w.heap.size + 1, 0, none⟩), .pointer (some ⟨w.heap.size, 0, none⟩)]) (by simp) (by simp [go_sem]) ?_
  refine (catch_err (w.heap.size + 1) w.heap.size k hk _ [] w2 cL cE fE).mono ?_
  rintro e u' w'' ⟨rfl, rfl, rfl⟩
  have h0 := hs0.out
  simp [Leaves, settle, results, Try.results71, go_sem, h0]
  exact HX.out _ (below_cell w _ _)
end Go.Proofs.Ytaainefdjbmekaa
namespace Go.Proofs.Ytaainefdjbmekaa
open Go.RowKit
/-- A row of bytes of one's own. -/
abbrev OY (w : World) (B : Nat) (v : Value) (l : List Nat) : Prop := w.ownsRow B 5 1 v l.length (byts l)
theorem putL_len : ∀ {l : List Nat}, (∀ x ∈ l, x < 268435456) → (Nd.putL l).length ≤ l.length * 4
  | [], _ => Nat.le_refl _
  | x :: l, h => by
    rw [Nd.putL_cons, List.length_append, List.length_cons]
    have h1 := Vint.vint_len (h x (List.mem_cons_self ..))
    have h2 := putL_len (l := l) fun y hy => h y (List.mem_cons_of_mem _ hy)
    omega
end Go.Proofs.Ytaainefdjbmekaa
namespace Go.Proofs.Ytaainefdjbmekaa
open Go.RowKit
theorem Nd.Ok.entry_leaf {n : Nd.N} (h : Nd.Ok n) (h0 : n.h = 0) {i : Nat} (hi : i < n.ks.length) : ∃ K a b c G : Nat, Nd.at_ n.ks i = (K : Int) ∧ Nd.t3 n.ps i = ((a : Int), (b : Int), (c : Int)) ∧ Nd.at_ n.gs i = (G : Int) ∧ Nd.entry n i = [K, a, b, c, G] ∧ K < 268435456 ∧ a < 268435456 ∧ b < 268435456 ∧ c < 268435456 ∧ G < 268435456 := by
  have hk := h.key i hi
  obtain ⟨-, -, -, h4⟩ := h.leaf h0
  obtain ⟨⟨p1, p2, p3, p4, p5⟩, p6, p7, p8, p9⟩ := h4 i hi
  refine ⟨(Nd.at_ n.ks i).toNat, (Nd.t3 n.ps i).1.toNat, (Nd.t3 n.ps i).2.1.toNat, (Nd.t3 n.ps i).2.2.toNat, (Nd.at_ n.gs i).toNat, by omega, ?_, by omega, ?_, by omega, by omega, by omega, by omega, by omega⟩
  · rw [Int.toNat_of_nonneg p1, Int.toNat_of_nonneg (by omega), Int.toNat_of_nonneg p6]
  · unfold Nd.entry; rw [if_pos h0]
theorem Nd.Ok.entry_inner {n : Nd.N} (h : Nd.Ok n) (h0 : n.h ≠ 0) {i : Nat} (hi : i < n.ks.length) : ∃ K a b c : Nat, Nd.at_ n.ks i = (K : Int) ∧ Nd.t3 n.cs i = ((a : Int), (b : Int), (c : Int)) ∧ Nd.entry n i = [K, a, b, c] ∧ K < 268435456 ∧ a < 268435456 ∧ b < 268435456 ∧ c < 268435456 := by
  have hk := h.key i hi
  obtain ⟨-, -, -, -, h4⟩ := h.inner h0
  obtain ⟨⟨p1, p2, p3, p4, p5⟩, p8, p9⟩ := h4 i hi
  refine ⟨(Nd.at_ n.ks i).toNat, (Nd.t3 n.cs i).1.toNat, (Nd.t3 n.cs i).2.1.toNat, (Nd.t3 n.cs i).2.2.toNat, by omega, ?_, ?_, by omega, by omega, by omega, by omega⟩
  · rw [Int.toNat_of_nonneg p1, Int.toNat_of_nonneg (by omega), Int.toNat_of_nonneg p8]
  · unfold Nd.entry; rw [if_neg h0]
theorem entries_len {n : Nd.N} (h : Nd.Ok n) : ∀ {k : Nat}, k ≤ n.ks.length → (Nd.putL (Nd.entries n k)).length ≤ k * 20
  | 0, _ => by simp [Nd.entries, Nd.putL]
  | k + 1, hk => by
    rw [Nd.entries_next, Nd.putL_app, List.length_append]
    have h1 := entries_len h (k := k) (by omega)
    have h2 := putL_len (h.entry_lt (i := k) (by omega))
    rw [h.entry_len] at h2
    have : Nd.width n.h.toNat ≤ 5 := by unfold Nd.width; split <;> omega
    omega
end Go.Proofs.Ytaainefdjbmekaa
namespace Go.Proofs.Ytaainefdjbmekaa
open Go.RowKit Vint
/-- Block g is a writer that holds the bytes l; all that is its own lies in F. -/
structure Wr (w : World) (F : Nat → Prop) (g : Nat) (l : List Nat) : Prop where
  lt : ∀ b, F b → b < w.heap.size
  fg : F g
  ex : ∃ v, Blk w g 124 #[v] ∧ Row w F 5 1 v l.length (byts l)
section
variable {w w' : World} {F G : Nat → Prop} {g : Nat} {l : List Nat}
theorem Wr.mono (h : Wr w F g l) (hFG : ∀ i, F i → G i) (hG : ∀ b, G b → b < w.heap.size) : Wr w G g l := by
  obtain ⟨_, hfg, v, hblk, hrow⟩ := h
  exact ⟨hG, hFG g hfg, v, hblk, hrow.mono hFG⟩
theorem Wr.keep (h : Wr w F g l) (hs : w.heap.size ≤ w'.heap.size) (hk : ∀ b, F b → w'.heap[b]? = w.heap[b]?) : Wr w' F g l := by
  obtain ⟨hlt, hfg, v, hblk, hrow⟩ := h
  exact ⟨fun b hb => Nat.lt_of_lt_of_le (hlt b hb) hs, hfg, v, hblk.keep (hk g hfg), hrow.keep fun b hb => hk b (hrow.mem b hb)⟩
theorem Wr.below (h : Wr w F g l) (hb : Below w.heap.size w w') : Wr w' F g l := h.keep hb.size fun b hF => hb.block b (h.lt b hF)
end
theorem wext_lt {F : Nat → Prop} {w w' : World} (h : ∀ b, F b → b < w.heap.size) (hs : w.heap.size ≤ w'.heap.size) : ∀ b, Ext F w w' b → b < w'.heap.size := fun b hb => hb.elim (fun hb => Nat.lt_of_lt_of_le (h b hb) hs) (fun hb => hb.2)
theorem or_byte7 (y : Nat) : bits BinOp.or IntKind.u8 ((y : Int) % 256) 128 = ((y % 128 + 128 : Nat) : Int) := by
  have h : ∀ z : Nat, z < 256 → z ||| 128 = z % 128 + 128 := by decide +kernel
  have e : ((y : Int) % 256) = ((y % 256 : Nat) : Int) := by omega
  rw [e, show (128 : Int) = ((128 : Nat) : Int) from rfl, u8_or_nat _ _ (by omega) (by decide), h _ (by omega)]
  omega
/-- An append to a writer's own bytes. -/
theorem wr_append {w0 w2 : World} {F : Nat → Prop} {g n n2 : Nat} {v v2 : Value} {xs ys : List Value} (hb : Blk w0 g 124 #[v]) (hr : Row w0 F 5 1 v n xs) (hown : w2.ownsRow 0 5 1 v2 n2 ys)
    (hgr : w0.grownBy w2 v.ownBlock) (hbl : v2.ownBlock = v.ownBlock ∨ v2.ownBlock = some w0.heap.size) :
    Blk w2 g 124 #[v] ∧ Chg F w0 w2 ∧ Row w2 (Ext F w0 w2) 5 1 v2 n2 ys := by
  refine ⟨hb.grown hgr (hr.ne_ hb (by decide)), (Chg.refl F w0).grown hgr fun k hk => .inl (hr.mem k hk), ⟨hown, fun k hk => ?_⟩⟩
  rcases hbl with h | h
  · exact .inl (hr.mem k (by rw [← h]; exact hk))
  · rw [h] at hk
    injection hk with hk
    refine .inr ⟨by omega, ?_⟩
    have : Row w2 (fun _ => True) 5 1 v2 n2 ys := ⟨hown, fun _ _ => trivial⟩
    exact this.lt (by rw [h, hk])
theorem ext_ext {F : Nat → Prop} {a b c d : World} (hab : a.heap.size ≤ b.heap.size) (hbc : b.heap.size ≤ c.heap.size) (hcd : c.heap.size ≤ d.heap.size) : ∀ i, Ext (Ext F a b) c d i → Ext F a d i := by
  intro i hi
  rcases hi with (h | h) | h
  · exact .inl h
  · exact .inr ⟨h.1, by omega⟩
  · exact .inr ⟨by omega, h.2⟩
/-- And the store of what it gave. -/
theorem wr_stored {w wr w0 w2 : World} {F : Nat → Prop} {g n2 : Nat} {v v2 : Value} {l2 : List Nat} (hlt : ∀ b, Ext F w wr b → b < wr.heap.size) (hfg : Ext F w wr g) (hC : Chg F w wr) (h0 : Chg (Ext F w wr) wr w0)
    (hb : Blk w2 g 124 #[v]) (hc : Chg (Ext F w wr) w0 w2) (hr : Row w2 (Ext (Ext F w wr) w0 w2) 5 1 v2 n2 (byts l2)) (hn : n2 = l2.length) :
    Wr (w2.setCell ⟨g, 0, none⟩ v2) (Ext F w (w2.setCell ⟨g, 0, none⟩ v2)) g l2 ∧ Chg F w (w2.setCell ⟨g, 0, none⟩ v2) := by
  subst hn
  have hz : (w2.setCell ⟨g, 0, none⟩ v2).heap.size = w2.heap.size := by simp
  have hzz := hC.size
  have hz0 := h0.size
  have hz2 := hc.size
  have he : ∀ i, Ext (Ext F w wr) w0 w2 i → Ext F w (w2.setCell ⟨g, 0, none⟩ v2) i := fun i hi => by
    rcases ext_ext hzz hz0 hz2 i hi with h | h
    · exact .inl h
    · exact .inr ⟨h.1, by rw [hz]; exact h.2⟩
  have hg : F g ∨ w.heap.size ≤ g := hfg.elim .inl fun h => .inr h.1
  refine ⟨⟨fun b hb => ?_, he g (.inl hfg), v2, ?_, (hr.set_far (fun hk => hr.ne_ hb (by decide) hk) _).mono he⟩, (hC.trans (h0.then_ hc)).setCell hg _⟩
  · rcases hb with hb | hb
    · have := hlt b (.inl hb); omega
    · exact hb.2
  · have := hb.set_ 0 v2
    simpa using this
set_option maxRecDepth 4000 in
set_option maxHeartbeats 4000000 in
theorem wnum_any (g x : Nat) (hx : x < 268435456) (F : Nat → Prop) (l : List Nat) (hl : l.length ≤ 1000000000) (w : World) (h : Wr w F g l) :
    Calls Try.prog 59 #[.pointer (some ⟨g, 0, none⟩), .int .i64 (x : Int)] w fun e w' => e = .returned (.tuple #[]) ∧ Wr w' (Ext F w w') g (l ++ vint x) ∧ Chg F w w' := by
  have h1 : decide ((x : Int) < 0) = false := by simp
  have h2 : decide (268435455 < (x : Int)) = false := by simp; omega
  obtain ⟨i0, hi0, hz0, hs0, hb0⟩ := byte_parts (P := Try.prog) (e := 5) (by kernel_rfl)
  go_enter Try.func59, Try.ntmps59
  go_wp2_with fail
  go_loopw [1] (fun v wr => ∃ (y : Nat) (p : List Nat), v = .int .i64 y ∧ y < 268435456 ∧ p ++ vint y = vint x ∧ Wr wr (Ext F w wr) g (l ++ p) ∧ Chg F w wr) (fun v _ => (intOf v).toNat)
  case atStart => exact ⟨x, [], rfl, hx, rfl, by rw [List.append_nil]; exact h.mono (fun _ h => .inl h) (wext_lt h.lt (Nat.le_refl _)), Chg.refl F w⟩
  case round =>
    obtain ⟨y, p, rfl, hy, hp, hW, hC⟩ := hrel
    obtain ⟨hlt, hfg, v, hblk, hrow⟩ := hW
    obtain ⟨A, c, rfl, hnc, hA⟩ := hrow.form
    have hlp : (l ++ p).length + 4 ≤ 1000000010 := by
      have h1 := congrArg List.length hp
      have h2 := vint_len hx
      have h3 := vint_pos y
      rw [List.length_append] at h1 ⊢
      omega
    have Hp := Lib.hid hp
    obtain ⟨m, hm⟩ : ∃ m, m = l ++ p := ⟨_, rfl⟩
    have Hm := Lib.hid hm
    rw [← hm] at hblk hrow hnc hlp
    clear hm hp h
    have c0 : wr.cell? ⟨g, 0, none⟩ = some (.slice A m.length c) := hblk.cell 0
    have f0 := hblk.frozen 0
    have Hrow := Lib.hid hrow
    have Hblk := Lib.hid hblk
    clear hrow hblk
    by_cases h128 : 128 ≤ y
    · have q1 : decide (128 ≤ (y : Int)) = true := by simp; omega
      have ho := or_byte7 y
      have hn : Hid (vint y = (y % 128 + 128) :: vint (y / 128)) := Lib.hid (vint_high h128)
      generalize y % 128 + 128 = d at *
      have hal : Chg (Ext F w wr) wr (wr.alloc (.cells #[.int .u8 (d : Int)] 5)) := (Chg.refl _ wr).alloc _
      have hsl : Sl (wr.alloc (.cells #[.int .u8 (d : Int)] 5)) (wr.heap.size + 1) (some ⟨wr.heap.size, 0, none⟩) (byts [d]) := .inr ⟨wr.heap.size, 0, rfl, by omega, fun i hi => by
        have : i = 0 := by simp [byts] at hi; omega
        subst this
        exact (cell_fresh rfl).trans rfl⟩
      have Hr1 := Lib.hid (Hrow.out.alloc (.cells #[.int .u8 (d : Int)] 5))
      have Hb1 := Lib.hid (Hblk.out.alloc (.cells #[.int .u8 (d : Int)] 5))
      have Hsl := Lib.hid hsl
      have Hal := Lib.hid hal
      clear hsl hal
      go_wp2_with (at_builtin; refine wpList_append_sl (base := 0) _ rfl (.tmp 21) (.tmp 25) _ rfl Try.underlying22 hi0 hz0 hs0 hb0 rfl (v := .slice A m.length c) rfl Hr1.out.own rfl (byts_length [d]).symm (by simp) Hsl.out (byts_one _) (by rw [byts_length]; exact Nat.le_refl _) (by rw [byts_length]; unfold maxLen; simp; omega) (by rw [byts_length]; simp; omega) (Nat.zero_le _) ?_; intro v2 w2 hown2 hgr hbl; obtain ⟨A2, c2, rfl⟩ := own_slice hown2; obtain ⟨hb2, hc2, hr2⟩ := wr_append Hb1.out Hr1.out hown2 hgr hbl; have d0 : w2.cell? ⟨g, 0, none⟩ = some (.slice A m.length c) := hb2.cell 0; have f2 := hb2.frozen 0; have Hb2 := Lib.hid hb2; have Hc2 := Lib.hid hc2; have Hr2 := Lib.hid hr2; clear hown2 hgr hbl hb2 hc2 hr2)
      obtain ⟨h3, hC3⟩ := wr_stored (l2 := m ++ [d]) hlt hfg hC Hal.out Hb2.out Hc2.out (by rw [← byts_join]; exact Hr2.out) (by rw [byts_length, List.length_append])
      refine ⟨⟨y / 128, p ++ [d], by go_num, by omega, ?_, ?_, hC3⟩, by simp [intOf]; omega⟩
      · rw [List.append_assoc, ← Hp.out, hn.out]; rfl
      · rw [← List.append_assoc, ← Hm.out]; exact h3
    · have q1 : decide (128 ≤ (y : Int)) = false := by simp; omega
      have hn : Hid (vint y = [y]) := Lib.hid (vint_low (by omega))
      have hcv : (y : Int) % 256 = (y : Int) := by omega
      have hal : Chg (Ext F w wr) wr (wr.alloc (.cells #[.int .u8 (y : Int)] 5)) := (Chg.refl _ wr).alloc _
      have hsl : Sl (wr.alloc (.cells #[.int .u8 (y : Int)] 5)) (wr.heap.size + 1) (some ⟨wr.heap.size, 0, none⟩) (byts [y]) := .inr ⟨wr.heap.size, 0, rfl, by omega, fun i hi => by
        have : i = 0 := by simp [byts] at hi; omega
        subst this
        exact (cell_fresh rfl).trans rfl⟩
      have Hr1 := Lib.hid (Hrow.out.alloc (.cells #[.int .u8 (y : Int)] 5))
      have Hb1 := Lib.hid (Hblk.out.alloc (.cells #[.int .u8 (y : Int)] 5))
      have Hsl := Lib.hid hsl
      have Hal := Lib.hid hal
      clear hsl hal
      go_wp2_with (at_builtin; refine wpList_append_sl (base := 0) _ rfl (.tmp 33) (.tmp 36) _ rfl Try.underlying22 hi0 hz0 hs0 hb0 rfl (v := .slice A m.length c) rfl Hr1.out.own rfl (byts_length [y]).symm (by simp) Hsl.out (byts_one _) (by rw [byts_length]; exact Nat.le_refl _) (by rw [byts_length]; unfold maxLen; simp; omega) (by rw [byts_length]; simp; omega) (Nat.zero_le _) ?_; intro v2 w2 hown2 hgr hbl; obtain ⟨A2, c2, rfl⟩ := own_slice hown2; obtain ⟨hb2, hc2, hr2⟩ := wr_append Hb1.out Hr1.out hown2 hgr hbl; have d0 : w2.cell? ⟨g, 0, none⟩ = some (.slice A m.length c) := hb2.cell 0; have f2 := hb2.frozen 0; have Hb2 := Lib.hid hb2; have Hc2 := Lib.hid hc2; have Hr2 := Lib.hid hr2; clear hown2 hgr hbl hb2 hc2 hr2)
      obtain ⟨h3, hC3⟩ := wr_stored (l2 := m ++ [y]) hlt hfg hC Hal.out Hb2.out Hc2.out (by rw [← byts_join]; exact Hr2.out) (by rw [byts_length, List.length_append])
      refine bodyPost_end (results_none rfl _ _ _) rfl ?_
      refine ⟨rfl, ?_, hC3⟩
      rw [← Hp.out, hn.out, ← List.append_assoc, ← Hm.out]
      exact h3
theorem Sl.chg {w w' : World} {B : Nat} {A : Option Addr} {xs : List Value} {F : Nat → Prop} (h : Sl w B A xs) (hB : B ≤ w.heap.size) (hc : Chg F w w') (hd : xs ≠ [] → ∀ i o, A = some ⟨i, o, none⟩ → ¬ F i) : Sl w' w'.heap.size A xs := by
  by_cases h0 : xs = []
  · exact .inl h0
  rcases h with h | ⟨b, o, e, hlt, hcell⟩
  · exact absurd h h0
  · refine .inr ⟨b, o, e, by have := hc.size; omega, fun i hi => ?_⟩
    rw [← hcell i hi]
    exact World.cell?_of_block (hc.block b (by omega) (hd h0 b o e))
set_option maxHeartbeats 400000 in
theorem wout_any (g : Nat) (F : Nat → Prop) (l : List Nat) (hl : l.length ≤ 1000000000) (w : World) (h : Wr w F g l) :
    Calls Try.prog 63 #[.pointer (some ⟨g, 0, none⟩)] w (NewBytes w l) := by
  obtain ⟨_, _, v, hblk, hrow⟩ := h
  obtain ⟨A, c, rfl, hnc, hA⟩ := hrow.form
  have c0 : w.cell? ⟨g, 0, none⟩ = some (.slice A l.length c) := hblk.cell 0
  have c1 := Lib.hid (bclone_any A c l w hrow.sl (Nat.le_refl _) hnc hA (by omega))
  clear hrow hblk
  go_enter Try.func63, Try.ntmps63
  go_wp2_with fail
  refine c1.out.mono ?_
  rintro e w' ⟨A2, c2, rfl, hown, hb⟩
  have Ho := Lib.hid hown
  clear hown
  go_wp2_with fail
  go_ret
  exact ⟨A2, c2, rfl, Ho.out, hb⟩
end Go.Proofs.Ytaainefdjbmekaa
namespace Go.Proofs.Ytaainefdjbmekaa
open Go.RowKit Vint
/-- Block g, not older than B, is a writer that holds the bytes l. -/
structure Wn (w : World) (B g : Nat) (l : List Nat) : Prop where
  bg : B ≤ g
  ex : ∃ v, Blk w g 124 #[v] ∧ w.ownsRow B 5 1 v l.length (byts l)
/-- Blocks older than B, and those that hold neither a writer nor bytes, are as they were. -/
structure Oth (B : Nat) (w w' : World) : Prop where
  os : w'.os = w.os
  tape : w'.tape = w.tape
  output : w'.output = w.output
  size : w.heap.size ≤ w'.heap.size
  old : ∀ b, b < w.heap.size → b < B → w'.heap[b]? = w.heap[b]?
  kind : ∀ b t cs, Blk w b t cs → t ≠ 124 → t ≠ 5 → Blk w' b t cs
theorem Oth.below {B : Nat} {w w' : World} (h : Oth B w w') (hB : B ≤ w.heap.size) : Below B w w' := ⟨h.os, h.tape, h.output, h.size, fun i hi => h.old i (Nat.lt_of_lt_of_le hi hB) hi⟩
theorem oth_of {B : Nat} {w w' : World} (h : Below w.heap.size w w') : Oth B w w' := ⟨h.os, h.tape, h.output, h.size, fun i hi _ => h.block i hi, fun b _ _ hb _ _ => hb.keep (h.block b hb.lt)⟩
theorem Oth.trans {B : Nat} {a b c : World} (h : Oth B a b) (k : Oth B b c) : Oth B a c :=
  ⟨k.os.trans h.os, k.tape.trans h.tape, k.output.trans h.output, Nat.le_trans h.size k.size, fun i hi hB => (k.old i (Nat.lt_of_lt_of_le hi h.size) hB).trans (h.old i hi hB), fun i t cs hb h1 h2 => k.kind i t cs (h.kind i t cs hb h1 h2) h1 h2⟩
theorem own_base {w : World} {B : Nat} {e : TypeId} {size n : Nat} {v : Value} {xs : List Value} (h : w.ownsRow 0 e size v n xs) (hb : ∀ k, v.ownBlock = some k → B ≤ k) : w.ownsRow B e size v n xs := by
  refine ⟨h.1, ?_⟩
  rcases h.2 with h0 | ⟨g, cap, cur, hv, _, rest⟩
  · exact .inl h0
  · exact .inr ⟨g, cap, cur, hv, hb g (by rw [hv]; rfl), rest⟩
theorem own_zero {w : World} {B : Nat} {e : TypeId} {size n : Nat} {v : Value} {xs : List Value} (h : w.ownsRow B e size v n xs) : w.ownsRow 0 e size v n xs := by
  refine ⟨h.1, ?_⟩
  rcases h.2 with h0 | ⟨g, cap, cur, hv, _, rest⟩
  · exact .inl h0
  · exact .inr ⟨g, cap, cur, hv, Nat.zero_le _, rest⟩
section
variable {w w' : World} {B g : Nat} {l l' : List Nat}
theorem Wn.lt (h : Wn w B g l) : g < w.heap.size := by obtain ⟨_, v, hb, _⟩ := h; exact hb.lt
theorem wn_open (h : Wn w B g l) : ∃ F : Nat → Prop, Wr w F g l ∧ (∀ i, F i → B ≤ i) ∧ ∀ b t cs, Blk w b t cs → t ≠ 124 → t ≠ 5 → ¬ F b := by
  obtain ⟨hg, v, hb, hown⟩ := h
  have hrow : Row w (fun b => b = g ∨ v.ownBlock = some b) 5 1 v l.length (byts l) := ⟨own_zero hown, fun k hk => .inr hk⟩
  refine ⟨fun b => b = g ∨ v.ownBlock = some b, ⟨fun b hF => ?_, .inl rfl, v, hb, hrow⟩, fun i hi => ?_, fun b t cs hbt h1 h2 => ?_⟩
  · rcases hF with rfl | hF
    · exact hb.lt
    · exact hrow.lt hF
  · rcases hi with rfl | hi
    · exact hg
    · exact (hown.lt i hi).1
  · rintro (rfl | h)
    · exact Blk.ne_ hbt hb h1 rfl
    · exact hrow.ne_ hbt (Ne.symm h2) h
theorem wn_shut {F : Nat → Prop} (h : Wn w B g l) (hF : ∀ i, F i → B ≤ i) (hk : ∀ b t cs, Blk w b t cs → t ≠ 124 → t ≠ 5 → ¬ F b) (hW : Wr w' (Ext F w w') g l') (hc : Chg F w w') : Wn w' B g l' ∧ Oth B w w' := by
  have hlt := h.lt
  obtain ⟨hg, _⟩ := h
  obtain ⟨_, _, v, hb, hrow⟩ := hW
  refine ⟨⟨hg, v, hb, own_base hrow.own fun k hk => ?_⟩, hc.os, hc.tape, hc.output, hc.size, fun b hb hB => hc.block b hb fun h => by have := hF b h; omega, fun b t cs hb h1 h2 => hb.keep (hc.block b hb.lt (hk b t cs hb h1 h2))⟩
  rcases hrow.mem k hk with h | h
  · exact hF k h
  · omega
theorem wn_new (w : World) {B : Nat} (hB : B ≤ w.heap.size) : Wn (w.alloc (.cells #[.slice none 0 0] 124)) B w.heap.size [] := ⟨hB, _, Blk.new _ _ _, World.ownsRow_nil _ _ _ _⟩
theorem Wn.keep (h : Wn w B g l) (hk : ∀ b, b < w.heap.size → B ≤ b → w'.heap[b]? = w.heap[b]?) : Wn w' B g l := by
  obtain ⟨hg, v, hb, hown⟩ := h
  exact ⟨hg, v, hb.keep (hk g hb.lt hg), own_keep hown fun b hb hlt => hk b hlt (hown.lt b hb).1⟩
theorem Wn.below (h : Wn w B g l) (hb : Below w.heap.size w w') : Wn w' B g l := h.keep fun b hlt _ => hb.block b hlt
/-- A store into a cell of another kind. -/
theorem Wn.set (h : Wn w B g l) {p : Addr} {t : TypeId} {cs : Array Value} (hp : Blk w p.block t cs) (h1 : t ≠ 124) (h2 : t ≠ 5) (v : Value) : Wn (w.setCell p v) B g l := by
  obtain ⟨hg, u, hb, hown⟩ := h
  have hrow : Row w (fun _ => True) 5 1 u l.length (byts l) := ⟨own_zero hown, fun k hk => trivial⟩
  exact ⟨hg, u, hb.far (Blk.ne_ hp hb h1) _, own_far hown (fun hk => hrow.ne_ hp (Ne.symm h2) hk) _⟩
theorem wn_num (h : Wn w B g l) (x : Nat) (hx : x < 268435456) (hl : l.length ≤ 1000000000) :
    Calls Try.prog 59 #[.pointer (some ⟨g, 0, none⟩), .int .i64 (x : Int)] w fun e w' => e = .returned (.tuple #[]) ∧ Wn w' B g (l ++ vint x) ∧ Oth B w w' := by
  obtain ⟨F, hW, hF, hk⟩ := wn_open h
  refine (wnum_any g x hx F l hl w hW).mono ?_
  rintro e w' ⟨rfl, hW', hc⟩
  exact ⟨rfl, wn_shut h hF hk hW' hc⟩
theorem Wn.alloc (h : Wn w B g l) (o : Obj) : Wn (w.alloc o) B g l := h.keep fun b hb _ => Below.heap_alloc w o b hb
theorem Wn.chg (h : Wn w B g l) {X : Nat → Prop} (hc : Chg X w w') (hX : ∀ b, X b → ∃ t cs, Blk w b t cs ∧ t ≠ 124 ∧ t ≠ 5) : Wn w' B g l := by
  obtain ⟨hg, u, hb, hown⟩ := h
  have hrow : Row w (fun _ => True) 5 1 u l.length (byts l) := ⟨own_zero hown, fun k hk => trivial⟩
  refine ⟨hg, u, hb.keep (hc.block g hb.lt fun hx => ?_), own_keep hown fun b hb hlt => hc.block b hlt fun hx => ?_⟩
  · obtain ⟨t, cs, h0, h1, _⟩ := hX g hx
    exact Blk.ne_ h0 hb h1 rfl
  · obtain ⟨t, cs, h0, _, h2⟩ := hX b hx
    exact hrow.ne_ h0 (Ne.symm h2) hb
theorem wn_out (h : Wn w B g l) (hl : l.length ≤ 1000000000) : Calls Try.prog 63 #[.pointer (some ⟨g, 0, none⟩)] w (NewBytes w l) := by
  obtain ⟨F, hW, _, _⟩ := wn_open h
  exact wout_any g F l hl w hW
end
end Go.Proofs.Ytaainefdjbmekaa
