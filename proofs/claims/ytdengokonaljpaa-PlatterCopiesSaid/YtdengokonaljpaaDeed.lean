/- One operation on both platters, one after the other. -/
import Derived.Test.YtdengokonaljpaaFlts
import Derived.Shelf.Bytes.SlSmallAll
namespace Go.Proofs.Ytdengokonaljpaa
open Go.RowKit Go.Maps

/-- The program's platter has done it, the document's not yet. -/
def Mid (w w1 : World) (F G : Nat → Prop) (p m : Nat) (st st' : PSt) : Prop :=
  ∃ F1, Dev w1 F1 p st' ∧ (∀ i, F1 i → F i ∨ w.heap.size ≤ i) ∧ Chg F w w1 ∧ RefR w1 G m st ∧ (∀ i, F1 i → ¬ G i)
/-- Both have done it. -/
def Fin (w w2 : World) (F G : Nat → Prop) (p m : Nat) (st' : PSt) : Prop :=
  ∃ F' G', Duo w2 F' G' p m st' ∧ (∀ i, F' i → F i ∨ w.heap.size ≤ i) ∧ (∀ i, G' i → G i ∨ w.heap.size ≤ i) ∧ Chg (fun i => F i ∨ G i) w w2

section
variable {w w1 w2 : World} {F G F1 G1 : Nat → Prop} {p m : Nat} {st st' : PSt}
theorem mid_of (h : Duo w F G p m st) (hd : Dev w1 F1 p st') (hF : ∀ i, F1 i → F i ∨ w.heap.size ≤ i) (hc : Chg F w w1) : Mid w w1 F G p m st st' :=
  ⟨F1, hd, hF, hc, h.ref.keep hc.size fun b hb => hc.block b (h.ref.lt b hb) fun hf => h.dis b hf hb, fun i hi hg => (hF i hi).elim (fun hf => h.dis i hf hg) (fun hs => by have := h.ref.lt i hg; omega)⟩
theorem fin_of (h : Mid w w1 F G p m st st') (hr : RefR w2 G1 m st') (hG : ∀ i, G1 i → G i ∨ w1.heap.size ≤ i) (hc2 : Chg G w1 w2) : Fin w w2 F G p m st' := by
  obtain ⟨F1, hd, hF, hc, _, hdis⟩ := h
  refine ⟨F1, G1, ⟨hd.keep hc2.size fun b hb => hc2.block b (hd.lt b hb) (hdis b hb), hr, fun i hi hg => (hG i hg).elim (hdis i hi) (fun hs => by have := hd.lt i hi; omega)⟩, hF, fun i hi => (hG i hi).imp id fun hs => Nat.le_trans hc.size hs, ?_⟩
  exact (hc.mono fun _ h => .inl h).then_ (hc2.mono fun _ h => .inr h)
theorem Fin.base {w0 : World} (h : Fin w w2 F G p m st') (hb : Below w0.heap.size w0 w) : Fin w0 w2 F G p m st' := by
  obtain ⟨F', G', h1, h2, h3, h4⟩ := h
  exact ⟨F', G', h1, fun i hi => (h2 i hi).imp id fun hs => Nat.le_trans hb.size hs, fun i hi => (h3 i hi).imp id fun hs => Nat.le_trans hb.size hs, (Chg.of_below _ hb).then_ h4⟩
theorem Fin.top {w3 : World} (h : Fin w w2 F G p m st') (hb : Below w2.heap.size w2 w3) : Fin w w3 F G p m st' := by
  obtain ⟨F', G', h1, h2, h3, h4⟩ := h
  exact ⟨F', G', h1.below hb, h2, h3, h4.then_ (Chg.of_below _ hb)⟩
theorem sl_chg {X : Nat → Prop} {B : Nat} {A : Option Addr} {xs : List Value} (h : Sl w B A xs) (hB : B ≤ w.heap.size) (hc : Chg X w w1) (hx : ∀ b o, A = some ⟨b, o, none⟩ → ¬ X b) : Sl w1 B A xs := by
  rcases h with h0 | ⟨b, o, e, hb, hcell⟩
  · exact .inl h0
  · exact .inr ⟨b, o, e, hb, fun i hi => (World.cell?_of_block (hc.block b (Nat.lt_of_lt_of_le hb hB) (hx b o e))).trans (hcell i hi)⟩
theorem conv_sl {B : Nat} {A : Option Addr} {cap : Nat} {l : List Nat} (h : Sl w B A (byts l)) : (convert 49 9 (.slice A l.length cap)).run Try.prog w = .ok (.string (str l)) w := by
  rcases h with h0 | ⟨b, o, rfl, _, hc⟩
  · have : l = [] := by cases l with
      | nil => rfl
      | cons a r => simp [byts] at h0
    subst this
    exact run_convert_bytes_zero w 49 5 Try.underlying49 Try.underlying5 A cap _ Try.underlying9
  · refine run_convert_bytes_arg (P := Try.prog) w 49 5 Try.underlying49 Try.underlying5 b o l.length cap (l.map fun n : Nat => (n : Int)) (by simp) (fun i hi => ?_) _ Try.underlying9
    rw [hc i (by rw [byts_length]; exact hi)]
    simp [byts, List.getD, hi]

variable {N : Nat}
theorem Fair.fits (h : Duo w F G p m st) : st.fits := fun q hq => (h.dev.wf.c q hq).1
theorem p_write (h : Duo w F G p m st) (hf : Fair st N) (hN : N < 1000) (n : Int) (A : Option Addr) (cap : Nat) (l : List Nat) (hl : ∀ x ∈ l, x < 256) (hsl : Sl w w.heap.size A (byts l)) (hdis : ∀ b o, A = some ⟨b, o, none⟩ → ¬ F b) :
    Calls Try.prog 18 #[.pointer (some ⟨p, 0, none⟩), .int .i64 n, .slice A l.length cap] w fun e w1 => e = .returned (.int .i64 (st.write n l).1) ∧ Mid w w1 F G p m st (st.write n l).2 :=
  (dwrite_any p st F w h.dev (by have := (hf.o 2 (by omega)).1; omega) (by have := hf.c; omega) (by have := hf.b.2; omega) n A cap l hl hsl hdis).mono fun _ _ ⟨e, hd, hc⟩ => ⟨e, mid_of h hd ext_new hc⟩
theorem m_write {n : Int} {l : List Nat} (h : Mid w w1 F G p m st (st.write n l).2) (hf : Fair st N) (hN : N < 1000) (A : Option Addr) (cap : Nat) (hl : ∀ x ∈ l, x < 256) (hcap : l.length ≤ cap) (hA : A = none → cap = 0) (hsl : Sl w1 w1.heap.size A (byts l)) (hdis : ∀ b o, A = some ⟨b, o, none⟩ → ¬ G b) :
    Calls Try.prog 27 #[.pointer (some ⟨m, 0, none⟩), .int .i64 n, .slice A l.length cap] w1 fun e w2 => e = .returned (.int .i64 (st.write n l).1) ∧ Fin w w2 F G p m (st.write n l).2 := by
  have hr : RefR w1 G m st := by obtain ⟨_, _, _, _, hr, _⟩ := h; exact hr
  exact (rwrite_any m st G w1 hr ⟨by have := (hf.o 2 (by omega)).1; omega, by have := (hf.o 2 (by omega)).2; omega⟩ (by have := hf.q; omega) (by have := hf.c; omega) n A cap l hl hcap hA hsl hdis).mono fun _ _ ⟨e, hr', hc⟩ => ⟨e, fin_of h hr' ext_new hc⟩
def PRead (w : World) (F G : Nat → Prop) (p m : Nat) (st : PSt) (n : Int) (e : Ending) (w1 : World) : Prop :=
  ∃ A c, e = .returned (.tuple #[.slice A (st.read n).2.length c, .int .i64 (st.read n).1]) ∧ Mid w w1 F G p m st (st.count 1) ∧ Sl w1 w1.heap.size A (byts (st.read n).2) ∧ ∀ b o, A = some ⟨b, o, none⟩ → w.heap.size ≤ b
theorem p_read (h : Duo w F G p m st) (hf : Fair st N) (hN : N < 1000) (n : Int) :
    Calls Try.prog 20 #[.pointer (some ⟨p, 0, none⟩), .int .i64 n] w (PRead w F G p m st n) := by
  refine (dread_any p st F w h.dev (by have := (hf.o 1 (by omega)).1; omega) (by have := hf.c; omega) (by have := hf.b.2; omega) n).mono ?_
  rintro e w1 ⟨v, rfl, hd, hc, A, cap, rfl, _, _, hr⟩
  refine ⟨A, cap, rfl, mid_of h hd (fun _ h => .inl h) hc, ?_, ?_⟩
  · rcases hr with ⟨h0, _⟩ | ⟨b, rfl, _, h64, _, hlt, hblk⟩
    · rw [h0]; exact .inl rfl
    · exact .inr ⟨b, 0, rfl, hlt, fun i hi => by rw [Nat.zero_add, hblk.cell i]; simp⟩
  · intro b o e
    rcases hr with ⟨_, h1⟩ | ⟨b', h1, _, _, hle, _⟩
    · rw [h1] at e; cases e
    · rw [h1] at e; injection e with e; injection e with e _; omega
def MRead (w : World) (F G : Nat → Prop) (p m : Nat) (st : PSt) (n : Int) (e : Ending) (w2 : World) : Prop :=
  ∃ A c, e = .returned (.tuple #[.slice A (st.read n).2.length c, .int .i64 (st.read n).1]) ∧ Fin w w2 F G p m (st.count 1) ∧ Sl w2 w2.heap.size A (byts (st.read n).2)
theorem m_read (h : Mid w w1 F G p m st (st.count 1)) (hf : Fair st N) (hN : N < 1000) (n : Int) :
    Calls Try.prog 28 #[.pointer (some ⟨m, 0, none⟩), .int .i64 n] w1 fun e w2 => MRead w F G p m st n e w2 ∧ Chg G w1 w2 := by
  have hr : RefR w1 G m st := by obtain ⟨_, _, _, _, hr, _⟩ := h; exact hr
  refine (rread_any m st G w1 hr ⟨by have := (hf.o 1 (by omega)).1; omega, by have := (hf.o 1 (by omega)).2; omega⟩ (by have := hf.q; omega) (by have := hf.c; omega) n).mono ?_
  rintro e w2 ⟨v, rfl, hr', hc, _, hfr⟩
  obtain ⟨A, c, rfl, _, _⟩ := Row.form hfr
  refine ⟨⟨A, c, rfl, fin_of h hr' ext_new hc, ?_⟩, hc⟩
  have h2 : Row w2 (fun b => w1.heap.size ≤ b) 5 1 (.slice A (st.read n).2.length c) (st.read n).2.length (byts (st.read n).2) := hfr
  exact h2.sl
theorem p_sync (h : Duo w F G p m st) (hf : Fair st N) (hN : N < 1000) :
    Calls Try.prog 22 #[.pointer (some ⟨p, 0, none⟩)] w fun e w1 => e = .returned (.int .i64 st.sync.1) ∧ Mid w w1 F G p m st st.sync.2 :=
  (dsync_any p st F w h.dev (by have := (hf.o 3 (by omega)).1; omega) (by have := hf.c; omega) hf.b.1).mono fun _ _ ⟨e, hd, hc⟩ => ⟨e, mid_of h hd ext_new hc⟩
theorem m_sync (h : Mid w w1 F G p m st st.sync.2) (hf : Fair st N) (hN : N < 1000) (hfit : st.fits) :
    Calls Try.prog 29 #[.pointer (some ⟨m, 0, none⟩)] w1 fun e w2 => e = .returned (.int .i64 st.sync.1) ∧ Fin w w2 F G p m st.sync.2 := by
  have hr : RefR w1 G m st := by obtain ⟨_, _, _, _, hr, _⟩ := h; exact hr
  exact (rsync_any m st G w1 hr ⟨by have := (hf.o 3 (by omega)).1; omega, by have := (hf.o 3 (by omega)).2; omega⟩ (by have := hf.q; omega) (by have := hf.c; omega) hf.b.1 hfit).mono fun _ _ ⟨e, hr', hc, _⟩ => ⟨e, fin_of h hr' (fun _ h => .inl h) hc⟩
theorem p_crash (h : Duo w F G p m st) (hf : Fair st N) (hN : N < 1000) (K : Option Addr) (cap : Nat) (keep : List Bool) (hsl : Sl w w.heap.size K (bools keep)) (hdis : ∀ b o, K = some ⟨b, o, none⟩ → keep ≠ [] → ¬ F b) :
    Calls Try.prog 21 #[.pointer (some ⟨p, 0, none⟩), .slice K keep.length cap] w fun e w1 => e = .returned (.tuple #[]) ∧ Mid w w1 F G p m st (st.crash keep) :=
  (dcrash_any p st F w h.dev (by have := hf.c; omega) hf.b.1 K cap keep hsl hdis).mono fun _ _ ⟨e, hd, hc⟩ => ⟨e, mid_of h hd ext_new hc⟩
theorem m_crash {keep : List Bool} (h : Mid w w1 F G p m st (st.crash keep)) (hf : Fair st N) (hN : N < 1000) (hfit : st.fits) (K : Option Addr) (cap : Nat) (hkl : keep.length < 1000000) (hcap : keep.length ≤ cap) (hsl : Sl w1 w1.heap.size K (bools keep)) (hdis : ∀ b o, K = some ⟨b, o, none⟩ → keep ≠ [] → ¬ G b) :
    Calls Try.prog 30 #[.pointer (some ⟨m, 0, none⟩), .slice K keep.length cap] w1 fun e w2 => e = .returned (.tuple #[]) ∧ Fin w w2 F G p m (st.crash keep) := by
  have hr : RefR w1 G m st := by obtain ⟨_, _, _, _, hr, _⟩ := h; exact hr
  exact (rcrash_any m st G w1 hr (by have := hf.c; omega) hf.b.1 hfit K cap keep hkl hcap hsl hdis).mono fun _ _ ⟨e, hr', hc, _⟩ => ⟨e, fin_of h hr' (fun _ h => .inl h) hc⟩
theorem p_fail (h : Duo w F G p m st) (hf : Fair st N) (hN : N < 1000) (K : Option Addr) (cap : Nat) (l : List (Int × Int)) (hl : l.length < 1000000) (hwf : ∀ f ∈ l, (Lit.int .i64 f.1).wf = true ∧ (Lit.int .i64 f.2).wf = true) (hsl : Sl w w.heap.size K (planCells l)) (hdis : ∀ b o, K = some ⟨b, o, none⟩ → ¬ F b) :
    Calls Try.prog 16 #[.pointer (some ⟨p, 0, none⟩), .slice K l.length cap] w fun e w1 => e = .returned (.tuple #[]) ∧ Mid w w1 F G p m st (st.plans l) :=
  (dfail_any p st F w h.dev (fun k hk => by have := (hf.o k hk).1; omega) K cap l hl hwf hsl hdis).mono fun _ _ ⟨e, hd, hc⟩ => ⟨e, mid_of h hd ext_new hc⟩
theorem m_fail {l : List (Int × Int)} (h : Mid w w1 F G p m st (st.plans l)) (K : Option Addr) (cap : Nat) (hl : l.length < 1000000) (hcap : l.length ≤ cap) (hK : K = none → cap = 0) (hsl : Sl w1 w1.heap.size K (planCells l)) :
    Calls Try.prog 17 #[.pointer (some ⟨m, 0, none⟩), .slice K l.length cap] w1 fun e w2 => e = .returned (.tuple #[]) ∧ Fin w w2 F G p m (st.plans l) := by
  have hr : RefR w1 G m st := by obtain ⟨_, _, _, _, hr, _⟩ := h; exact hr
  exact (rfail_any m st G w1 hr K cap l hl hcap hK hsl).mono fun _ _ ⟨e, hr', hc⟩ => ⟨e, fin_of h hr' ext_new hc⟩
theorem rot_nats {n bit : Int} (h : st.rotOk n bit = true) : ∃ a b : Nat, n = a ∧ bit = b ∧ a < st.blocks.length ∧ b < 512 := by
  unfold PSt.rotOk at h
  rw [decide_eq_true_eq] at h
  exact ⟨n.toNat, bit.toNat, by omega, by omega, by omega, by omega⟩
theorem p_rot (h : Duo w F G p m st) (n bit : Int) (mask : Nat) (hm : mask < 2 ^ 32) :
    Calls Try.prog 24 #[.pointer (some ⟨p, 0, none⟩), .int .i64 n, .int .i64 bit, .int .u32 (mask : Int)] w fun e w1 => e = .returned (.bool (st.rot n bit mask).1) ∧ Mid w w1 F G p m st (st.rot n bit mask).2 := by
  by_cases hok : st.rotOk n bit = true
  · obtain ⟨a, b, rfl, rfl, ha, hb⟩ := rot_nats hok
    rw [show st.rot a b mask = (true, { st with blocks := st.blocks.set a (rotted (st.blocks.getD a []) b mask) }) by unfold PSt.rot; rw [if_pos hok, Int.toNat_natCast, Int.toNat_natCast]]
    exact (drot_good p st F w h.dev a b mask hm ha hb).mono fun _ _ ⟨e, hd, hc⟩ => ⟨e, mid_of h hd (fun _ h => .inl h) hc⟩
  · have hno : st.rotOk n bit = false := by simpa using hok
    rw [show st.rot n bit mask = (false, st) by unfold PSt.rot; rw [if_neg hok]]
    exact (drot_bad p st F w h.dev n bit mask hno).mono fun _ _ ⟨e, hw⟩ => ⟨e, by subst hw; exact mid_of h h.dev (fun _ h => .inl h) (Chg.refl _ _)⟩
theorem m_rot {n bit : Int} {mask : Nat} (h : Mid w w1 F G p m st (st.rot n bit mask).2) (hm : mask < 2 ^ 32) :
    Calls Try.prog 32 #[.pointer (some ⟨m, 0, none⟩), .int .i64 n, .int .i64 bit, .int .u32 (mask : Int)] w1 fun e w2 => e = .returned (.bool (st.rot n bit mask).1) ∧ Fin w w2 F G p m (st.rot n bit mask).2 := by
  have hr : RefR w1 G m st := by obtain ⟨_, _, _, _, hr, _⟩ := h; exact hr
  by_cases hok : st.rotOk n bit = true
  · obtain ⟨a, b, rfl, rfl, ha, hb⟩ := rot_nats hok
    rw [show st.rot a b mask = (true, { st with blocks := st.blocks.set a (rotted (st.blocks.getD a []) b mask) }) by unfold PSt.rot; rw [if_pos hok, Int.toNat_natCast, Int.toNat_natCast]] at *
    exact (rrot_good m st G w1 hr a b mask hm ha hb).mono fun _ _ ⟨e, hr', hc⟩ => ⟨e, fin_of h hr' ext_new hc⟩
  · have hno : st.rotOk n bit = false := by simpa using hok
    rw [show st.rot n bit mask = (false, st) by unfold PSt.rot; rw [if_neg hok]] at *
    exact (rrot_bad m st G w1 hr n bit mask hno).mono fun _ _ ⟨e, hw⟩ => ⟨e, by subst hw; exact fin_of h hr (fun _ h => .inl h) (Chg.refl _ _)⟩
end
end Go.Proofs.Ytdengokonaljpaa
