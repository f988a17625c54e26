/- The program's Copy, whole. -/
import Derived.Test.YtdengokonaljpaaCopy
import Derived.Deep.RegionHeldLaw
namespace Go.Proofs.Ytdengokonaljpaa
open Go.RowKit Go.Maps

theorem own_zero {w : World} {base : Nat} {e : TypeId} {size n : Nat} {v : Value} {xs : List Value} (h : w.ownsRow base e size v n xs) : w.ownsRow 0 e size v n xs := by
  refine ⟨h.1, ?_⟩
  rcases h.2 with h0 | ⟨g, cap, cur, hv, _, rest⟩
  · exact .inl h0
  · exact .inr ⟨g, cap, cur, hv, Nat.zero_le _, rest⟩
theorem flat64_one (l : List (List Nat)) : ∀ u ∈ flat64 l, u.oneCell' = true := by
  intro u hu
  unfold flat64 at hu
  obtain ⟨x, _, hx⟩ := List.mem_flatMap.1 hu
  exact byts_one x u hx
theorem flat65_one (l : List (Nat × List Nat)) : ∀ u ∈ flat65 l, u.oneCell' = true := by
  intro u hu
  unfold flat65 at hu
  obtain ⟨x, _, hx⟩ := List.mem_flatMap.1 hu
  exact write_one x.1 x.2 u hx
def RelClone (W wc : World) (t : TypeId) (size n : Nat) (xs : List Value) (e : Ending) (w' : World) : Prop :=
  ∃ A' c', e = .returned (.slice A' n c') ∧ w'.ownsRow wc.heap.size t size (.slice A' n c') n xs ∧ Below wc.heap.size wc w' ∧ Below W.heap.size W w'
def RelMap (W wc : World) (es : Array MapEntry) (clock : Nat) (e : Ending) (w' : World) : Prop :=
  e = .returned (.map (some wc.heap.size)) ∧ w'.heap[wc.heap.size]? = some (.map es clock) ∧ Below wc.heap.size wc w' ∧ Below W.heap.size W w' ∧ wc.heap.size < w'.heap.size
theorem rel_clone {W wc : World} {t : TypeId} {size n : Nat} {xs : List Value} (hb : Below W.heap.size W wc) {e : Ending} {w' : World} (h : ClonePost wc t size n xs e w') : RelClone W wc t size n xs e w' := by
  obtain ⟨A', c', he, ho, hb'⟩ := h
  exact ⟨A', c', he, ho, hb', hb.trans (hb'.mono hb.size)⟩
theorem rel_map {W wc : World} {es : Array MapEntry} {clock : Nat} (hb : Below W.heap.size W wc) {e : Ending} {w' : World} (h : e = .returned (.map (some wc.heap.size)) ∧ w' = wc.alloc (.map es clock)) : RelMap W wc es clock e w' := by
  obtain ⟨he, rfl⟩ := h
  have h1 : Below wc.heap.size wc (wc.alloc (.map es clock)) := (Below.refl _ _).alloc (Nat.le_refl _) _
  exact ⟨he, heap_alloc_new wc _, h1, hb.trans (h1.mono hb.size), by simp⟩
def CopyPost (w : World) (st : PSt) (e : Ending) (w' : World) : Prop :=
  ∃ q F', e = .returned (.pointer (some ⟨q, 0, none⟩)) ∧ Dev w' F' q st ∧ (∀ i, F' i → w.heap.size ≤ i) ∧ Below w.heap.size w w'

/-- What was cloned, put together. -/
theorem copy_dev {w w1 w2 w3 w4 : World} {F : Nat → Prop} {p : Nat} {st : PSt} {Bv Cv : Value} {bm : Nat} {Pm : Option Nat} {D E : DataW Unit} (h : DevS w F p st Bv Cv bm Pm D E)
    {A1 A2 : Option Addr} {c1 c2 : Nat} {base1 base2 : Nat} {es : Array MapEntry} {clock : Nat} {Pm' : Option Nat} (hb1 : w.heap.size ≤ base1) (hb2 : w.heap.size ≤ base2)
    (hB : w1.ownsRow base1 79 64 (.slice A1 st.blocks.length c1) st.blocks.length (flat64 st.blocks)) (h12 : Below w1.heap.size w1 w2)
    (hC : w2.ownsRow base2 82 65 (.slice A2 st.cache.length c2) st.cache.length (flat65 st.cache)) (h23 : Below w2.heap.size w2 w3) (hs3 : w2.heap.size < w3.heap.size)
    (hbm : w.heap[bm]? = some (.map es clock)) (hM : w3.heap[w2.heap.size]? = some (.map es clock)) (h34 : Below w3.heap.size w3 w4) (hw : Below w.heap.size w w4) (hw2 : w.heap.size ≤ w2.heap.size)
    (hP : (Pm = none ∧ Pm' = none) ∨ ∃ b b' es' clock', Pm = some b ∧ Pm' = some b' ∧ w3.heap.size ≤ b' ∧ b' < w4.heap.size ∧ w.heap[b]? = some (.map es' clock') ∧ w4.heap[b']? = some (.map es' clock')) :
    Dev (w4.alloc (.cells (devCells st (.slice A1 st.blocks.length c1) (.slice A2 st.cache.length c2) w2.heap.size Pm') 72)) (fun i => w.heap.size ≤ i ∧ i < w4.heap.size + 1) w4.heap.size st := by
  have hz := hw.size
  have hz12 := h12.size
  have hz23 := h23.size
  have hz34 := h34.size
  have hB4 : w4.ownsRow base1 79 64 (.slice A1 st.blocks.length c1) st.blocks.length (flat64 st.blocks) := own_below (own_below (own_below hB h12) h23) h34
  have hC4 : w4.ownsRow base2 82 65 (.slice A2 st.cache.length c2) st.cache.length (flat65 st.cache) := own_below (own_below hC h23) h34
  have alB : ∀ o, Below w4.heap.size w4 (w4.alloc o) := fun o => (Below.refl _ _).alloc (Nat.le_refl _) o
  have mapOf : ∀ {k : TypeId} {R : Value → Option (DataW Unit × List MemPlace)} {b n b' : Nat} {D' : DataW Unit} {es' : Array MapEntry} {clock' : Nat} {w' : World}, w.ownsMap Try.prog k R b n D' → w.heap[b]? = some (.map es' clock') → w'.heap[b']? = some (.map es' clock') → w'.ownsMap Try.prog k R b' n D' := by
    rintro k R b n b' D' es' clock' w' ⟨e1, k1, hb, rest⟩ h1 h2
    rw [hb] at h1
    injection h1 with h1
    injection h1 with h1 h1'
    subst h1
    subst h1'
    exact ⟨e1, k1, h2, rest⟩
  refine ⟨_, _, w2.heap.size, Pm', D, E, ⟨h.wf, fun b hb => by simpa using hb.2, ⟨hz, by omega⟩, Blk.new w4 _ _, ?_, ?_, ⟨hw2, by omega⟩, ?_, h.last, ?_, ?_⟩⟩
  · exact ⟨own_zero (own_below hB4 (alB _)), fun k hk => ⟨Nat.le_trans hb1 (hB4.lt k hk).1, by have := (hB4.lt k hk).2; omega⟩⟩
  · exact ⟨own_zero (own_below hC4 (alB _)), fun k hk => ⟨Nat.le_trans hb2 (hC4.lt k hk).1, by have := (hC4.lt k hk).2; omega⟩⟩
  · refine mapOf h.M hbm ?_
    rw [(alB _).block _ (by omega), h34.block _ hs3]; exact hM
  · intro b hb
    rcases hP with ⟨_, h2⟩ | ⟨b0, b', es', clock', h1, h2, h3, h4, h5, h6⟩
    · rw [h2] at hb; cases hb
    · rw [h2] at hb
      injection hb with hb
      subst hb
      obtain ⟨_, _, hm⟩ := h.P b0 h1
      exact ⟨⟨by omega, by omega⟩, by omega, mapOf hm h5 ((alB _).block _ h4 |>.trans h6)⟩
  · intro k j k1 k3 hj hj2
    have := h.due k j k1 k3 hj hj2
    rcases hP with ⟨h1, h2⟩ | ⟨b0, b', es', clock', h1, h2, _⟩
    · rw [h1] at this; rw [h2]; exact this
    · rw [h1] at this; rw [h2]; exact this
set_option maxRecDepth 10000 in
set_option maxHeartbeats 2000000 in
theorem copy_any {w : World} {F : Nat → Prop} {p : Nat} {st : PSt} (hd : Dev w F p st) (hbl : st.blocks.length ≤ 1000000) (hcl : st.cache.length ≤ 1000000) :
    Calls Try.prog 14 #[.pointer (some ⟨p, 0, none⟩)] w (CopyPost w st) := by
  obtain ⟨Bv, Cv, bm, Pm, D, E, h⟩ := hd
  obtain ⟨A, c, rfl, _, _⟩ := h.B.form
  obtain ⟨A2, c2, rfl, _, _⟩ := h.C.form
  have hp := h.blk.lt
  have hbmlt := h.lt bm h.fm
  obtain ⟨es, clock, hbM, _⟩ := h.M
  cases Pm with
  | none =>
    have keep : ∀ w', Below w.heap.size w w' → w'.cell? ⟨p, 0, none⟩ = some (.slice A st.blocks.length c) ∧ w'.cell? ⟨p, 1, none⟩ = some (.slice A2 st.cache.length c2) ∧ w'.cell? ⟨p, 2, none⟩ = some (.map (some bm)) ∧ w'.cell? ⟨p, 3, none⟩ = some (.map none) ∧ w'.cell? ⟨p, 4, none⟩ = some (num (st.ops 0)) ∧ w'.cell? ⟨p, 5, none⟩ = some (num (st.ops 1)) ∧ w'.cell? ⟨p, 6, none⟩ = some (num (st.ops 2)) ∧ w'.cell? ⟨p, 7, none⟩ = some (num (st.ops 3)) := fun w' hb =>
      ⟨(hb.cell (p := ⟨p, 0, none⟩) hp).trans (h.blk.cell 0), (hb.cell (p := ⟨p, 1, none⟩) hp).trans (h.blk.cell 1), (hb.cell (p := ⟨p, 2, none⟩) hp).trans (h.blk.cell 2), (hb.cell (p := ⟨p, 3, none⟩) hp).trans (h.blk.cell 3), (hb.cell (p := ⟨p, 4, none⟩) hp).trans (h.blk.cell 4), (hb.cell (p := ⟨p, 5, none⟩) hp).trans (h.blk.cell 5), (hb.cell (p := ⟨p, 6, none⟩) hp).trans (h.blk.cell 6), (hb.cell (p := ⟨p, 7, none⟩) hp).trans (h.blk.cell 7)⟩
    have Kp := Lib.hid keep
    have Hh := Lib.hid h
    have HbM := Lib.hid hbM
    have HB := Lib.hid (fun (wc : World) (hb : Below w.heap.size w wc) => (cloneB_any A c st.blocks.length 0 (flat64 st.blocks) wc (own_below h.B.own hb) hbl (flat64_one _)).mono fun _ _ hx => rel_clone hb hx)
    have HC := Lib.hid (fun (wc : World) (hb : Below w.heap.size w wc) => (cloneC_any A2 c2 st.cache.length 0 (flat65 st.cache) wc (own_below h.C.own hb) hcl (flat65_one _)).mono fun _ _ hx => rel_clone hb hx)
    have HI := Lib.hid (fun (wc : World) (hb : Below w.heap.size w wc) => (cloneI_any bm es clock wc ((hb.block bm hbmlt).trans hbM)).mono fun _ _ hx => rel_map hb hx)
    have hbc : Below w.heap.size w w.drew := (Below.refl _ _).drew
    clear keep h hbM
    go_enter Try.func14, Try.ntmps14
    go_wp2_with fail
    go_region_held_law (fun w' => w'.cell? ⟨p, 0, none⟩ = some (.slice A st.blocks.length c) ∧ w'.cell? ⟨p, 1, none⟩ = some (.slice A2 st.cache.length c2) ∧ w'.cell? ⟨p, 2, none⟩ = some (.map (some bm)) ∧ w'.cell? ⟨p, 3, none⟩ = some (.map none) ∧ w'.cell? ⟨p, 4, none⟩ = some (num (st.ops 0)) ∧ w'.cell? ⟨p, 5, none⟩ = some (num (st.ops 1)) ∧ w'.cell? ⟨p, 6, none⟩ = some (num (st.ops 2)) ∧ w'.cell? ⟨p, 7, none⟩ = some (num (st.ops 3))) (first | exact Kp.out _ hbc | exact Kp.out _ (hbc.alloc hbc.size _))
      (first
        | (go_at_call 33; refine (HB.out _ hbc).mono ?_; rintro e w1 ⟨A3, c3, rfl, hB1, hb1, hbc⟩)
        | (go_at_call 34; refine (HC.out _ hbc).mono ?_; rintro e w2 ⟨A4, c4, rfl, hC2, hb2, hbc⟩)
        | (go_at_call 35; refine (HI.out _ hbc).mono ?_; rintro e w3 ⟨rfl, hm3, hb3, hbc, hl3⟩)
        | (go_at_call 36; refine (cloneF_nil _).mono ?_; rintro e w4 ⟨rfl, rfl⟩))
    all_goals
      have s1 := hb1.size
      have s2 := hb2.size
      simp only [World.size_drew] at s1
      have hdev := copy_dev (w4 := w4) Hh.out (by simp) (by omega) hB1 hb2 hC2 hb3 hl3 HbM.out hm3 (Below.refl _ _) hbc (by omega) (.inl ⟨rfl, rfl⟩)
      have Hd := Lib.hid hdev
      have Hb := Lib.hid (hbc.alloc hbc.size (.cells (devCells st (.slice A3 st.blocks.length c3) (.slice A4 st.cache.length c4) w2.heap.size none) 72))
      clear hdev hB1 hC2 hm3 hb1 hb2 hb3 hbc
      go_wp2_with fail
      go_ret
      exact ⟨w4.heap.size, _, rfl, Hd.out, fun i hi => hi.1, Hb.out⟩
  | some b =>
    obtain ⟨es', clock', hbF, _⟩ := (h.P b rfl).2.2
    have keep : ∀ w', Below w.heap.size w w' → w'.cell? ⟨p, 0, none⟩ = some (.slice A st.blocks.length c) ∧ w'.cell? ⟨p, 1, none⟩ = some (.slice A2 st.cache.length c2) ∧ w'.cell? ⟨p, 2, none⟩ = some (.map (some bm)) ∧ w'.cell? ⟨p, 3, none⟩ = some (.map (some b)) ∧ w'.cell? ⟨p, 4, none⟩ = some (num (st.ops 0)) ∧ w'.cell? ⟨p, 5, none⟩ = some (num (st.ops 1)) ∧ w'.cell? ⟨p, 6, none⟩ = some (num (st.ops 2)) ∧ w'.cell? ⟨p, 7, none⟩ = some (num (st.ops 3)) := fun w' hb =>
      ⟨(hb.cell (p := ⟨p, 0, none⟩) hp).trans (h.blk.cell 0), (hb.cell (p := ⟨p, 1, none⟩) hp).trans (h.blk.cell 1), (hb.cell (p := ⟨p, 2, none⟩) hp).trans (h.blk.cell 2), (hb.cell (p := ⟨p, 3, none⟩) hp).trans (h.blk.cell 3), (hb.cell (p := ⟨p, 4, none⟩) hp).trans (h.blk.cell 4), (hb.cell (p := ⟨p, 5, none⟩) hp).trans (h.blk.cell 5), (hb.cell (p := ⟨p, 6, none⟩) hp).trans (h.blk.cell 6), (hb.cell (p := ⟨p, 7, none⟩) hp).trans (h.blk.cell 7)⟩
    have Kp := Lib.hid keep
    have Hh := Lib.hid h
    have HbM := Lib.hid hbM
    have HB := Lib.hid (fun (wc : World) (hb : Below w.heap.size w wc) => (cloneB_any A c st.blocks.length 0 (flat64 st.blocks) wc (own_below h.B.own hb) hbl (flat64_one _)).mono fun _ _ hx => rel_clone hb hx)
    have HC := Lib.hid (fun (wc : World) (hb : Below w.heap.size w wc) => (cloneC_any A2 c2 st.cache.length 0 (flat65 st.cache) wc (own_below h.C.own hb) hcl (flat65_one _)).mono fun _ _ hx => rel_clone hb hx)
    have HI := Lib.hid (fun (wc : World) (hb : Below w.heap.size w wc) => (cloneI_any bm es clock wc ((hb.block bm hbmlt).trans hbM)).mono fun _ _ hx => rel_map hb hx)
    have HF := Lib.hid (fun (wc : World) (hb : Below w.heap.size w wc) => (cloneF_any b es' clock' wc ((hb.block b (h.lt b (h.P b rfl).1)).trans hbF)).mono fun _ _ hx => rel_map hb hx)
    have HbF := Lib.hid hbF
    have hbc : Below w.heap.size w w.drew := (Below.refl _ _).drew
    clear keep h hbM hbF
    go_enter Try.func14, Try.ntmps14
    go_wp2_with fail
    go_region_held_law (fun w' => w'.cell? ⟨p, 0, none⟩ = some (.slice A st.blocks.length c) ∧ w'.cell? ⟨p, 1, none⟩ = some (.slice A2 st.cache.length c2) ∧ w'.cell? ⟨p, 2, none⟩ = some (.map (some bm)) ∧ w'.cell? ⟨p, 3, none⟩ = some (.map (some b)) ∧ w'.cell? ⟨p, 4, none⟩ = some (num (st.ops 0)) ∧ w'.cell? ⟨p, 5, none⟩ = some (num (st.ops 1)) ∧ w'.cell? ⟨p, 6, none⟩ = some (num (st.ops 2)) ∧ w'.cell? ⟨p, 7, none⟩ = some (num (st.ops 3))) (first | exact Kp.out _ hbc | exact Kp.out _ (hbc.alloc hbc.size _))
      (first
        | (go_at_call 33; refine (HB.out _ hbc).mono ?_; rintro e w1 ⟨A3, c3, rfl, hB1, hb1, hbc⟩)
        | (go_at_call 34; refine (HC.out _ hbc).mono ?_; rintro e w2 ⟨A4, c4, rfl, hC2, hb2, hbc⟩)
        | (go_at_call 35; refine (HI.out _ hbc).mono ?_; rintro e w3 ⟨rfl, hm3, hb3, hbc, hl3⟩)
        | (go_at_call 36; refine (HF.out _ hbc).mono ?_; rintro e w4 ⟨rfl, hm4, hb4, hbc, hl4⟩))
    all_goals
      have s1 := hb1.size
      have s2 := hb2.size
      simp only [World.size_drew] at s1
      have hdev := copy_dev (w4 := w4) Hh.out (by simp) (by omega) hB1 hb2 hC2 hb3 hl3 HbM.out hm3 hb4 hbc (by omega) (.inr ⟨b, w3.heap.size, es', clock', rfl, rfl, Nat.le_refl _, hl4, HbF.out, hm4⟩)
      have Hd := Lib.hid hdev
      have Hb := Lib.hid (hbc.alloc hbc.size (.cells (devCells st (.slice A3 st.blocks.length c3) (.slice A4 st.cache.length c4) w2.heap.size (some w3.heap.size)) 72))
      clear hdev hB1 hC2 hm3 hm4 hb1 hb2 hb3 hb4 hbc
      go_wp2_with fail
      go_ret
      exact ⟨w4.heap.size, _, rfl, Hd.out, fun i hi => hi.1, Hb.out⟩
end Go.Proofs.Ytdengokonaljpaa
