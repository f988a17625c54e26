/- The program's platter: Sync. -/
import Derived.Test.YtaainefdjbmekaaSbd
import Derived.Test.YtaainefdjbmekaaSbe
import Derived.Deep.RegionHeldLaw
namespace Go.Proofs.Ytaainefdjbmekaa
open Go.RowKit Go.Maps
section
variable {w w' : World} {F G : Nat → Prop} {g : Nat} {st : PSt} {Bv Cv : Value} {bm : Nat} {Pm : Option Nat} {D E : DataW Unit}
/-- A block is written. -/
theorem DevS.apply {gb L nb : Nat} (h : DevS w F g st (.slice (some ⟨gb, 0, none⟩) L nb) Cv bm Pm D E) {k : Nat} {l : List Nat} (h64 : l.length = 64) (hl : ∀ x ∈ l, x < 256) :
    DevS (w.setCells gb (k * 64) (byts l)) F g { st with blocks := st.blocks.set k l } (.slice (some ⟨gb, 0, none⟩) L nb) Cv bm Pm D E := by
  obtain ⟨A, c, hf, _⟩ := h.B.form
  have hL : L = st.blocks.length := by injection hf
  subst hL
  obtain ⟨cur, hcur⟩ := h.B.blk (k := gb) rfl
  have far : ∀ i, i ≠ gb → (w.setCells gb (k * 64) (byts l)).heap[i]? = w.heap[i]? := fun i hi => heap_setCells gb _ _ _ _ hi
  have hz := size_setCells gb (byts l) (k * 64) w
  refine ⟨⟨fun x hx => ?_, fun p hp => ?_⟩, fun b hb => by rw [hz]; exact h.lt b hb, h.fg, ?_, ?_, h.C.keep fun b hb => far b fun e => ?_, h.fm, ownsMap_keep h.M (far bm (ownsMap_ne h.M hcur)), h.last, fun b hb => ⟨(h.P b hb).1, (h.P b hb).2.1, ownsMap_keep (h.P b hb).2.2 (far b (ownsMap_ne (h.P b hb).2.2 hcur))⟩, h.due⟩
  · rcases List.mem_or_eq_of_mem_set hx with hx | rfl
    · exact h.wf.b x hx
    · exact ⟨h64, hl⟩
  · have := h.wf.c p hp
    exact ⟨by simpa using this.1, this.2⟩
  · refine Blk.keep ?_ (far g (Blk.ne_ h.blk hcur (by decide)))
    exact h.blk
  · have hr := Row.laid (byts l) (flat64 st.blocks) (k * 64) w h.B
    have hs := flat_set (f := byts) (s := 64) (l := st.blocks) (i := k) (y := l) (by omega) h.wf.b64 (by rw [byts_length, h64])
    unfold flat64 at hr ⊢
    rw [hs] at hr
    simpa using hr
  · subst e
    exact h.C.ne_ hcur (by decide) hb
theorem DevS.drew (h : DevS w F g st Bv Cv bm Pm D E) : DevS w.drew F g st Bv Cv bm Pm D E := h.keep (Nat.le_refl _) (fun _ _ => rfl)
theorem DevS.alloc (h : DevS w F g st Bv Cv bm Pm D E) (o : Obj) : DevS (w.alloc o) F g st Bv Cv bm Pm D E := h.keep (by simp) (fun b hb => Below.heap_alloc _ _ _ (h.lt b hb))
/-- The cache is emptied. -/
theorem DevS.emptied (h : DevS w F g st Bv Cv bm Pm D E) : DevS (emptyW w g) (Ext F w (emptyW w g)) g { st with cache := [] } Bv (.slice none 0 0) w.heap.size Pm (.map []) E ∧ Chg F w (emptyW w g) :=
  Go.Proofs.Ytaainefdjbmekaa.emptied h.wf.b h.lt h.fg h.blk h.B (fun b hb => ⟨(h.P b hb).1, (h.P b hb).2.2⟩) h.due
end
end Go.Proofs.Ytaainefdjbmekaa
