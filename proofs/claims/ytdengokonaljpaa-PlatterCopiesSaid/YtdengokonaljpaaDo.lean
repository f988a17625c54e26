/- The statements' Do: the same is done on both platters, and the answers are the same. -/
import Derived.Test.YtdengokonaljpaaDeed
import Derived.Deep.RegionHeldLaw
namespace Go.Proofs.Ytdengokonaljpaa
open Go.RowKit Go.Maps

def DoPost (w : World) (F G : Nat → Prop) (p m : Nat) (st' : PSt) (e : Ending) (w' : World) : Prop := e = .returned (.bool true) ∧ Fin w w' F G p m st'
theorem Mid.cell {w w1 : World} {F G : Nat → Prop} {p m : Nat} {st st' : PSt} (h : Mid w w1 F G p m st st') {b i : Nat} {v : Value} (hF : ¬ F b) (hc : w.cell? ⟨b, i, none⟩ = some v) : w1.cell? ⟨b, i, none⟩ = some v := by
  obtain ⟨_, _, _, hch, _, _⟩ := h
  exact (World.cell?_of_block (hch.block b (World.block_lt_of_cell? _ _ hc) hF)).trans hc
theorem Mid.sl {w w1 : World} {F G : Nat → Prop} {p m : Nat} {st st' : PSt} (h : Mid w w1 F G p m st st') {A : Option Addr} {xs : List Value} (hs : Sl w w.heap.size A xs) (hF : ∀ b o, A = some ⟨b, o, none⟩ → ¬ F b) : Sl w1 w1.heap.size A xs := by
  obtain ⟨_, _, _, hch, _, _⟩ := h
  exact (sl_chg hs (Nat.le_refl _) hch hF).more hch.size
theorem Fin.cell {w w2 : World} {F G : Nat → Prop} {p m : Nat} {st' : PSt} (h : Fin w w2 F G p m st') {b i : Nat} {v : Value} (hF : ¬ F b) (hG : ¬ G b) (hc : w.cell? ⟨b, i, none⟩ = some v) : w2.cell? ⟨b, i, none⟩ = some v := by
  obtain ⟨_, _, _, _, _, hch⟩ := h
  exact (World.cell?_of_block (hch.block b (World.block_lt_of_cell? _ _ hc) (fun hx => hx.elim hF hG))).trans hc

/-- The value of a deed. -/
abbrev deedV (d n : Int) (b mask : Nat) (K : Option Addr) (ck : Nat) (keep : List Bool) (Q : Option Addr) (cq : Nat) (fl : List (Int × Int)) : Array Value :=
  #[.int .i64 d, .int .i64 n, .int .u8 (b : Int), .int .u32 (mask : Int), .slice K keep.length ck, .slice Q fl.length cq]

section
variable {w : World} {F G : Nat → Prop} {p m : Nat} {st : PSt} {N : Nat}
set_option maxHeartbeats 1000000 in
theorem do_sync (h : Duo w F G p m st) (hf : Fair st N) (hN : N < 1000) (n : Int) (b mask : Nat) (K : Option Addr) (ck : Nat) (keep : List Bool) (Q : Option Addr) (cq : Nat) (fl : List (Int × Int)) :
    Calls Try.prog 12 #[.pointer (some ⟨p, 0, none⟩), .pointer (some ⟨m, 0, none⟩), .agg (deedV 6 n b mask K ck keep Q cq fl)] w (DoPost w F G p m st.sync.2) := by
  have hb0 : Below w.heap.size w (w.alloc (.cells (deedV 6 n b mask K ck keep Q cq fl) 35)) := (Below.refl _ _).alloc (Nat.le_refl _) _
  have h0 := h.below hb0
  have hfit := Fair.fits h
  go_enter Try.func12, Try.ntmps12
  go_wp2_with (first
    | (go_at_call 22; refine (p_sync h0 hf hN).mono ?_; rintro e w1 ⟨rfl, hm1⟩)
    | (go_at_call 29; refine (m_sync hm1 hf hN hfit).mono ?_; rintro e w2 ⟨rfl, hf2⟩))
  go_ret
  exact ⟨rfl, hf2.base hb0⟩

set_option maxHeartbeats 1000000 in
theorem do_read (d : Int) (hd : d = 4 ∨ d = 5) (h : Duo w F G p m st) (hf : Fair st N) (hN : N < 1000) (n : Int) (b mask : Nat) (K : Option Addr) (ck : Nat) (keep : List Bool) (Q : Option Addr) (cq : Nat) (fl : List (Int × Int)) :
    Calls Try.prog 12 #[.pointer (some ⟨p, 0, none⟩), .pointer (some ⟨m, 0, none⟩), .agg (deedV d n b mask K ck keep Q cq fl)] w (DoPost w F G p m (st.count 1)) := by
  have hb0 : Below w.heap.size w (w.alloc (.cells (deedV d n b mask K ck keep Q cq fl) 35)) := (Below.refl _ _).alloc (Nat.le_refl _) _
  have h0 := h.below hb0
  have hlt := h.lt
  have c1 : (w.alloc (.cells (deedV d n b mask K ck keep Q cq fl) 35)).cell? ⟨w.heap.size, 1, none⟩ = some (.int .i64 n) := (cell_fresh rfl).trans rfl
  have hF0 : ¬ F w.heap.size := fun hx => by have := hlt _ (.inl hx); omega
  have C1 := Lib.hid c1
  clear c1
  obtain ⟨r, hr⟩ : ∃ r, st.read n = r := ⟨_, rfl⟩
  have hp := p_read h0 hf hN n
  have hm := fun (w1 : World) (hm1 : Mid (w.alloc (.cells (deedV d n b mask K ck keep Q cq fl) 35)) w1 F G p m st (st.count 1)) => m_read hm1 hf hN n
  unfold PRead at hp
  unfold MRead at hm
  rw [hr] at hp hm
  have Hp := Lib.hid hp
  have Hm := Lib.hid hm
  clear hp hm hr
  rcases hd with rfl | rfl
  all_goals
    go_enter Try.func12, Try.ntmps12
    go_wp2_with fail
    refine Hp.out.mono ?_
    rintro e w1 ⟨A, c, rfl, hm1, hs1, hn1⟩
    have x1 := hm1.cell hF0 C1.out
    go_wp2_with fail
    refine (Hm.out w1 hm1).mono ?_
    rintro e w2 ⟨⟨A2, c2, rfl, hf2, hs2⟩, hc2⟩
    have k1 := conv_sl (cap := c) (sl_chg hs1 (Nat.le_refl _) hc2 (fun b o e hg => by have h1 := hn1 b o e; have h2 := hlt b (.inr hg); have h3 := hb0.size; omega))
    have k2 := conv_sl (cap := c2) hs2
    go_wp2_with fail
    go_ret
    exact ⟨rfl, hf2.base hb0⟩
set_option maxHeartbeats 1000000 in
theorem do_rot (h : Duo w F G p m st) (n : Int) (b mask : Nat) (hbb : b < 256) (hmask : mask < 4294967296) (K : Option Addr) (ck : Nat) (keep : List Bool) (Q : Option Addr) (cq : Nat) (fl : List (Int × Int)) :
    Calls Try.prog 12 #[.pointer (some ⟨p, 0, none⟩), .pointer (some ⟨m, 0, none⟩), .agg (deedV 9 n b mask K ck keep Q cq fl)] w (DoPost w F G p m (st.rot n b mask).2) := by
  have hb0 : Below w.heap.size w (w.alloc (.cells (deedV 9 n b mask K ck keep Q cq fl) 35)).drew := ((Below.refl _ _).alloc (Nat.le_refl _) _).drew
  have h0 := h.below hb0
  have hF0 : ¬ F w.heap.size := fun hx => by have := h.lt _ (.inl hx); omega
  have hG0 : ¬ G w.heap.size := fun hx => by have := h.lt _ (.inr hx); omega
  have c1 : (w.alloc (.cells (deedV 9 n b mask K ck keep Q cq fl) 35)).drew.cell? ⟨w.heap.size, 1, none⟩ = some (.int .i64 n) := (cell_fresh rfl).trans rfl
  have c2 : (w.alloc (.cells (deedV 9 n b mask K ck keep Q cq fl) 35)).drew.cell? ⟨w.heap.size, 2, none⟩ = some (.int .u8 (b : Int)) := (cell_fresh rfl).trans rfl
  have c3 : (w.alloc (.cells (deedV 9 n b mask K ck keep Q cq fl) 35)).drew.cell? ⟨w.heap.size, 3, none⟩ = some (.int .u32 (mask : Int)) := (cell_fresh rfl).trans rfl
  have wb : IntKind.i64.wrap (b : Int) = (b : Int) := IntWalk.i64_in _ (by omega)
  have Hp := Lib.hid (p_rot h0 n b mask (by omega))
  go_enter Try.func12, Try.ntmps12
  go_wp2_with fail
  go_region_held_law (fun w' => w'.cell? ⟨w.heap.size, 1, none⟩ = some (.int .i64 n) ∧ w'.cell? ⟨w.heap.size, 2, none⟩ = some (.int .u8 (b : Int)) ∧ w'.cell? ⟨w.heap.size, 3, none⟩ = some (.int .u32 (mask : Int))) (first | exact ⟨c1, c2, c3⟩ | exact ⟨hf2.cell hF0 hG0 c1, hf2.cell hF0 hG0 c2, hf2.cell hF0 hG0 c3⟩ | exact ⟨hm1.cell hF0 c1, hm1.cell hF0 c2, hm1.cell hF0 c3⟩)
    (first
      | (go_at_call 24; refine Hp.out.mono ?_; rintro e w1 ⟨rfl, hm1⟩)
      | (go_at_call 32; refine (m_rot hm1 (by omega)).mono ?_; rintro e w2 ⟨rfl, hf2⟩))
  all_goals
    clear c1 c2 c3
    have Hf2 := Lib.hid hf2
    clear hf2 hm1
    go_wp2_with fail
    go_ret
    exact ⟨rfl, Hf2.out.base hb0⟩
/-- What a write of b writes. -/
def dataOf (b : Nat) : List Nat := if b = 77 then (all64 b).drop 1 else all64 b
theorem dataOf_bytes {b : Nat} (h : b < 256) : ∀ x ∈ dataOf b, x < 256 := by
  intro x hx
  unfold dataOf at hx
  split at hx
  · exact all64_bytes h x (List.mem_of_mem_drop hx)
  · exact all64_bytes h x hx
theorem data_sl {w : World} {g b so la : Nat} {t : TypeId} (hs : (b = 77 ∧ so = 1 ∧ la = 63) ∨ (b ≠ 77 ∧ so = 0 ∧ la = 64)) (h : Blk w g t (byts (all64 b)).toArray) :
    (dataOf b).length = la ∧ Sl w w.heap.size (some ⟨g, so, none⟩) (byts (dataOf b)) := by
  rcases hs with ⟨e, rfl, rfl⟩ | ⟨e, rfl, rfl⟩
  · unfold dataOf
    rw [if_pos e]
    have hl : ((all64 b).drop 1).length = 63 := by rw [List.length_drop, all64_length]
    refine ⟨hl, .inr ⟨g, 1, rfl, h.lt, fun i hi => ?_⟩⟩
    rw [byts_length, hl] at hi
    rw [h.cell (1 + i)]
    simp [byts, Nat.add_comm, List.getElem?_eq_getElem (show i + 1 < (all64 b).length by rw [all64_length]; omega)]
  · unfold dataOf
    rw [if_neg e]
    refine ⟨all64_length b, .inr ⟨g, 0, rfl, h.lt, fun i hi => ?_⟩⟩
    rw [Nat.zero_add, h.cell i]; simp
/-- The two writes, behind a draw. -/
theorem two_writes {w3 : World} (h : Duo w3 F G p m st) (hf : Fair st N) (hN : N < 1000) (n : Int) {b so la g : Nat} {t : TypeId} (hb : b < 256) (hs : (b = 77 ∧ so = 1 ∧ la = 63) ∨ (b ≠ 77 ∧ so = 0 ∧ la = 64)) (hblk : Blk w3 g t (byts (all64 b)).toArray) (hF : ¬ F g) (hG : ¬ G g) :
    Calls Try.prog 18 #[.pointer (some ⟨p, 0, none⟩), .int .i64 n, .slice (some ⟨g, so, none⟩) la la] w3.drew (fun e w1 => e = .returned (.int .i64 (st.write n (dataOf b)).1) ∧ Mid w3.drew w1 F G p m st (st.write n (dataOf b)).2) ∧
    ∀ w1, Mid w3.drew w1 F G p m st (st.write n (dataOf b)).2 → Calls Try.prog 27 #[.pointer (some ⟨m, 0, none⟩), .int .i64 n, .slice (some ⟨g, so, none⟩) la la] w1 fun e w2 => e = .returned (.int .i64 (st.write n (dataOf b)).1) ∧ Fin w3.drew w2 F G p m (st.write n (dataOf b)).2 := by
  have h3 : Duo w3.drew F G p m st := h.below ((Below.refl _ _).drew)
  obtain ⟨hlen, hsl⟩ := data_sl hs (show Blk w3.drew g t (byts (all64 b)).toArray from hblk)
  have disF : ∀ b o, (some (⟨g, so, none⟩ : Addr)) = some ⟨b, o, none⟩ → ¬ F b := fun b o e => by injection e with e; injection e with e _; exact e ▸ hF
  have disG : ∀ b o, (some (⟨g, so, none⟩ : Addr)) = some ⟨b, o, none⟩ → ¬ G b := fun b o e => by injection e with e; injection e with e _; exact e ▸ hG
  have hp := p_write h3 hf hN n (some ⟨g, so, none⟩) la (dataOf b) (dataOf_bytes hb) hsl disF
  rw [hlen] at hp
  refine ⟨hp, fun w1 hm1 => ?_⟩
  have hm := m_write hm1 hf hN (some ⟨g, so, none⟩) la (dataOf_bytes hb) (by omega) (by simp) (hm1.sl hsl disF) disG
  rwa [hlen] at hm
set_option maxHeartbeats 2000000 in
theorem do_write (d : Int) (hd : d = 0 ∨ d = 1 ∨ d = 2 ∨ d = 3) (h : Duo w F G p m st) (hf : Fair st N) (hN : N < 1000) (n : Int) (b mask : Nat) (hb : b < 256) (K : Option Addr) (ck : Nat) (keep : List Bool) (Q : Option Addr) (cq : Nat) (fl : List (Int × Int)) :
    Calls Try.prog 12 #[.pointer (some ⟨p, 0, none⟩), .pointer (some ⟨m, 0, none⟩), .agg (deedV d n b mask K ck keep Q cq fl)] w (DoPost w F G p m (st.write n (dataOf b)).2) := by
  have hb0 : Below w.heap.size w (w.alloc (.cells (deedV d n b mask K ck keep Q cq fl) 35)) := (Below.refl _ _).alloc (Nat.le_refl _) _
  have hlt := h.lt
  have hF0 : ¬ F w.heap.size := fun hx => by have := hlt _ (.inl hx); omega
  have hG0 : ¬ G w.heap.size := fun hx => by have := hlt _ (.inr hx); omega
  have hF1 : ¬ F (w.heap.size + 1) := fun hx => by have := hlt _ (.inl hx); omega
  have hG1 : ¬ G (w.heap.size + 1) := fun hx => by have := hlt _ (.inr hx); omega
  have c1 : (w.alloc (.cells (deedV d n b mask K ck keep Q cq fl) 35)).cell? ⟨w.heap.size, 1, none⟩ = some (.int .i64 n) := (cell_fresh rfl).trans rfl
  have c2 : (w.alloc (.cells (deedV d n b mask K ck keep Q cq fl) 35)).cell? ⟨w.heap.size, 2, none⟩ = some (.int .u8 (b : Int)) := (cell_fresh rfl).trans rfl
  have hfull := full_any b (w.alloc (.cells (deedV d n b mask K ck keep Q cq fl) 35))
  have hfull2 : Calls Try.prog 19 #[.int .u8 (b : Int)] (w.alloc (.cells (deedV d n b mask K ck keep Q cq fl) 35)) fun e w3 => e = .returned (.slice (some ⟨w.heap.size + 1, 0, none⟩) 64 64) ∧ Below w.heap.size w w3.drew ∧ Blk w3 (w.heap.size + 1) 5 (byts (all64 b)).toArray ∧ w3.cell? ⟨w.heap.size, 1, none⟩ = some (.int .i64 n) ∧ w3.cell? ⟨w.heap.size, 2, none⟩ = some (.int .u8 (b : Int)) := by
    refine hfull.mono ?_
    rintro e w3 ⟨rfl, hb3, hz3, hblk⟩
    have hz : (w.alloc (.cells (deedV d n b mask K ck keep Q cq fl) 35)).heap.size = w.heap.size + 1 := by simp
    rw [hz] at hblk
    exact ⟨by rw [hz], (hb0.trans (hb3.mono hb0.size)).drew, hblk, (hb3.cell (p := ⟨w.heap.size, 1, none⟩) (by simp)).trans c1, (hb3.cell (p := ⟨w.heap.size, 2, none⟩) (by simp)).trans c2⟩
  have Hfull := Lib.hid hfull2
  clear hfull hfull2 c1 c2 hb0
  by_cases e77 : b = 77
  · have q77 : ((b : Int) == 77) = true := by simp; omega
    have He := Lib.hid e77
    clear e77
    rcases hd with rfl | rfl | rfl | rfl
    all_goals
      go_enter Try.func12, Try.ntmps12
      go_wp2_with fail
      refine Hfull.out.mono ?_
      rintro e w3 ⟨rfl, hbw, hblk, x1, x2⟩
      have h3 : Duo w3 F G p m st := h.keep hbw.size (fun i hi => hbw.block i (hlt i hi))
      have HW := Lib.hid (two_writes (so := 1) (la := 63) h3 hf hN n hb (.inl ⟨He.out, rfl, rfl⟩) hblk hF1 hG1)
      have HB := Lib.hid hbw
      clear hblk hbw h3
      go_wp2_with fail
      go_region_held_law (fun w' => w'.cell? ⟨w.heap.size, 1, none⟩ = some (.int .i64 n)) (first | exact x1 | exact hf2.cell hF0 hG0 x1 | exact hm1.cell hF0 x1)
        (first
          | (go_at_call 18; refine HW.out.1.mono ?_; rintro e w1 ⟨rfl, hm1⟩)
          | (go_at_call 27; refine (HW.out.2 _ hm1).mono ?_; rintro e w2 ⟨rfl, hf2⟩))
      all_goals
        clear x1 x2
        have Hf2 := Lib.hid hf2
        clear hf2 hm1
        go_wp2_with fail
        go_ret
        exact ⟨rfl, Hf2.out.base HB.out⟩
  · have q77 : ((b : Int) == 77) = false := by simp; omega
    have He := Lib.hid e77
    clear e77
    rcases hd with rfl | rfl | rfl | rfl
    all_goals
      go_enter Try.func12, Try.ntmps12
      go_wp2_with fail
      refine Hfull.out.mono ?_
      rintro e w3 ⟨rfl, hbw, hblk, x1, x2⟩
      have h3 : Duo w3 F G p m st := h.keep hbw.size (fun i hi => hbw.block i (hlt i hi))
      have HW := Lib.hid (two_writes (so := 0) (la := 64) h3 hf hN n hb (.inr ⟨He.out, rfl, rfl⟩) hblk hF1 hG1)
      have HB := Lib.hid hbw
      clear hblk hbw h3
      go_wp2_with fail
      go_region_held_law (fun w' => w'.cell? ⟨w.heap.size, 1, none⟩ = some (.int .i64 n)) (first | exact x1 | exact hf2.cell hF0 hG0 x1 | exact hm1.cell hF0 x1)
        (first
          | (go_at_call 18; refine HW.out.1.mono ?_; rintro e w1 ⟨rfl, hm1⟩)
          | (go_at_call 27; refine (HW.out.2 _ hm1).mono ?_; rintro e w2 ⟨rfl, hf2⟩))
      all_goals
        clear x1 x2
        have Hf2 := Lib.hid hf2
        clear hf2 hm1
        go_wp2_with fail
        go_ret
        exact ⟨rfl, Hf2.out.base HB.out⟩
end
end Go.Proofs.Ytdengokonaljpaa
