/- CellBack, walked. -/
import Derived.Test.YtajcfpldjomceaaCback
namespace Go.Proofs.Ytajcfpldjomceaa
open Go.RowKit Vint

theorem good_bad {l : List Part} {j : Nat} {s s' : List Nat} (h : Good l j s s') : ¬ Bad l j s := by
  rintro ⟨_, hb⟩
  obtain ⟨_, h⟩ := h
  rcases h with ⟨h1, h2⟩ | ⟨h1, h2⟩ <;> rcases hb with ⟨h3, h4⟩ | ⟨h3, h4⟩
  · have := h2.1; omega
  · exact h3 h1
  · exact h1 h3
  · have := h2.1; omega
theorem good_pe {l : List Part} {j : Nat} (hj : j < l.length) (h5 : l[j].b.length ≤ 500) (s : List Nat) : Good l j (pe l[j] ++ s) s := by
  refine ⟨hj, ?_⟩
  unfold pe
  by_cases hd : l[j].d = 2
  · rw [if_pos hd]; exact .inl ⟨hd, rightB_pe h5 s⟩
  · rw [if_neg hd]; exact .inr ⟨hd, rightN_vint (m28_lt _) s⟩
theorem bad_pe {l : List Part} {j c : Nat} (hj : j < l.length) (h5 : l[j].b.length ≤ 500) (hc : c < (pe l[j]).length) (s : List Nat) : Bad l j ((pe l[j] ++ s).take c) := by
  refine ⟨hj, ?_⟩
  rw [List.take_append_of_le_length (by omega)]
  unfold pe at hc ⊢
  by_cases hd : l[j].d = 2
  · rw [if_pos hd] at hc ⊢; exact .inl ⟨hd, cutB h5 hc⟩
  · rw [if_neg hd] at hc ⊢; exact .inr ⟨hd, by rw [num_cut (m28_lt _) hc]⟩

def BackR (z : Int) (O : Nat) (w : World) (e : Ending) (w' : World) : Prop := e = .returned (.int .i64 z) ∧ Blk w' O 4 #[.bool true] ∧ Chg (fun b => b = O) w w'
section
variable {w : World} {p O c c1 B : Nat} {A A1 : Option Addr} {l : List Part}
theorem back_full (suf : List Nat) (hsb : ∀ x ∈ suf, x < 256) (hsl : suf.length ≤ 1) (h5 : ∀ x ∈ l, x.b.length ≤ 500) (hlen : l.length ≤ 100) (hp : Blk w p 22 #[.slice A l.length c]) (hO : Blk w O 4 #[.bool true]) (hl : PartsAt w p A l) (hok : ∀ x ∈ l, x.ok w p) (hpO : p < O)
    (hs1 : Sl w B A1 (byts (penc l ++ suf))) (hB : B ≤ w.heap.size) (hc1 : (penc l ++ suf).length ≤ c1) (hA1 : A1 = none → c1 = 0) (t : Bool) (z : Int) (ht : decide (0 < suf.length) = t) (hz : z = if t = true then 3 else 0) :
    Calls Try.prog 16 #[.slice A1 (penc l ++ suf).length c1, .func (.func 24) #[] #[.pointer (some ⟨p, 0, none⟩), .pointer (some ⟨O, 0, none⟩)]] w (BackR z O w) := by
  have hpl := hp.lt
  have hOl := hO.lt
  have hel := (penc_len h5).2
  have hall : ∀ x ∈ penc l ++ suf, x < 256 := fun x hx => (List.mem_append.1 hx).elim (penc_byte (fun q hq => (hok q hq).byte) x) (hsb x)
  refine (read_ret A1 c1 (penc l ++ suf) w hs1 hB hc1 hA1 hall (by rw [List.length_append]; omega) 24 #[.pointer (some ⟨p, 0, none⟩), .pointer (some ⟨O, 0, none⟩)] (fun a w => by kernel_rfl) (fun b => b = O) (fun b hb => by omega) suf (fun w => Blk w O 4 #[.bool true]) ?_ t z ht hz).mono ?_
  · intro w1 R hr hb
    have hbp : Below p w w1 := hb.mono (by omega)
    refine (back1_any (fun j s => s = penc (l.drop j) ++ suf) (by rw [List.drop_zero]) (fun j s hj hs => .inl ⟨penc (l.drop (j + 1)) ++ suf, ?_, rfl⟩) hr hlen (hp.keep (hb.block p hp.lt)) (hO.keep (hb.block O hO.lt)) (hl.below hbp) (fun x hx => (hok x hx).below hbp) (by omega) (by omega) hpO).mono ?_
    · rw [hs, penc_drop hj, List.append_assoc]
      exact good_pe hj (h5 _ (List.getElem_mem _)) _
    · rintro e w2 ⟨h | ⟨_, j, s, hs, hbad, _⟩, hch, ho⟩
      · obtain ⟨rfl, s, hs, hr2⟩ := h
        rw [List.drop_length] at hs
        have hs' : s = suf := hs
        subst hs'
        exact ⟨rfl, hr2, hch, ho⟩
      · have hj : j < l.length := by obtain ⟨hj, _⟩ := hbad; exact hj
        refine absurd hbad (good_bad (s' := penc (l.drop (j + 1)) ++ suf) ?_)
        rw [hs, penc_drop hj, List.append_assoc]
        exact good_pe hj (h5 _ (List.getElem_mem _)) _
  · rintro e w' ⟨rfl, w2, h3, hk, hch⟩
    exact ⟨rfl, h3.keep (hk.block O h3.lt (by omega)), hch⟩
theorem back_cut (k : Nat) (hk : k < (penc l).length) (h5 : ∀ x ∈ l, x.b.length ≤ 500) (hlen : l.length ≤ 100) (hp : Blk w p 22 #[.slice A l.length c]) (hO : Blk w O 4 #[.bool true]) (hl : PartsAt w p A l) (hok : ∀ x ∈ l, x.ok w p) (hpO : p < O)
    (hs1 : Sl w B A1 (byts ((penc l).take k))) (hB : B ≤ w.heap.size) (hc1 : k ≤ c1) (hA1 : A1 = none → c1 = 0) :
    Calls Try.prog 16 #[.slice A1 k c1, .func (.func 24) #[] #[.pointer (some ⟨p, 0, none⟩), .pointer (some ⟨O, 0, none⟩)]] w (BackR 2 O w) := by
  have hpl := hp.lt
  have hOl := hO.lt
  have hel := (penc_len h5).2
  have htk : ((penc l).take k).length = k := by rw [List.length_take]; omega
  have hall : ∀ x ∈ (penc l).take k, x < 256 := fun x hx => penc_byte (fun q hq => (hok q hq).byte) x (List.mem_of_mem_take hx)
  have step : ∀ j s, j < l.length → (∃ k', k' < (penc (l.drop j)).length ∧ s = (penc (l.drop j)).take k') → (∃ s', Good l j s s' ∧ ∃ k', k' < (penc (l.drop (j + 1))).length ∧ s' = (penc (l.drop (j + 1))).take k') ∨ Bad l j s := by
    rintro j s hj ⟨k', hk', rfl⟩
    have h5j := h5 _ (List.getElem_mem (h := hj))
    rw [penc_drop hj, List.length_append] at hk'
    rw [penc_drop hj]
    by_cases hlt : k' < (pe l[j]).length
    · exact .inr (bad_pe hj h5j hlt _)
    · refine .inl ⟨(penc (l.drop (j + 1))).take (k' - (pe l[j]).length), ?_, _, by omega, rfl⟩
      rw [List.take_append, List.take_of_length_le (by omega)]
      exact good_pe hj h5j _
  have none_ : ∀ s, ¬ ∃ k', k' < (penc (l.drop l.length)).length ∧ s = (penc (l.drop l.length)).take k' := by
    rintro s ⟨k', h, _⟩
    rw [List.drop_length] at h
    simp [penc] at h
  have hr0 : Calls Try.prog 16 #[.slice A1 ((penc l).take k).length c1, .func (.func 24) #[] #[.pointer (some ⟨p, 0, none⟩), .pointer (some ⟨O, 0, none⟩)]] w (BackR 2 O w) := by
    refine (read_errx A1 c1 ((penc l).take k) w hs1 hB (by rw [htk]; exact hc1) hA1 hall (by rw [htk]; omega) 24 #[.pointer (some ⟨p, 0, none⟩), .pointer (some ⟨O, 0, none⟩)] (fun a w => by kernel_rfl) (fun b => b = O) (fun b hb => by omega) 2 (by decide) (fun w => Blk w O 4 #[.bool true]) ?_).mono ?_
    · intro w1 R hr hb
      have hbp : Below p w w1 := hb.mono (by omega)
      refine (back1_any (fun j s => ∃ k', k' < (penc (l.drop j)).length ∧ s = (penc (l.drop j)).take k') ⟨k, by rw [List.drop_zero]; exact hk, by rw [List.drop_zero]⟩ step hr hlen (hp.keep (hb.block p hp.lt)) (hO.keep (hb.block O hO.lt)) (hl.below hbp) (fun x hx => (hok x hx).below hbp) (by omega) (by omega) hpO).mono ?_
      rintro e w2 ⟨h | ⟨h, j, s, _, _, hr2⟩, hch, ho⟩
      · obtain ⟨_, s, hs, _⟩ := h
        exact absurd hs (none_ s)
      · exact ⟨h, ⟨s, hr2⟩, hch, ho⟩
    · rintro e w' ⟨rfl, w2, h3, hk, hch⟩
      exact ⟨rfl, h3.keep (hk.block O h3.lt (by omega)), hch⟩
  rwa [htk] at hr0
theorem back_full0 (h5 : ∀ x ∈ l, x.b.length ≤ 500) (hlen : l.length ≤ 100) (hp : Blk w p 22 #[.slice A l.length c]) (hO : Blk w O 4 #[.bool true]) (hl : PartsAt w p A l) (hok : ∀ x ∈ l, x.ok w p) (hpO : p < O)
    (hs1 : Sl w B A1 (byts (penc l))) (hB : B ≤ w.heap.size) (hc1 : (penc l).length ≤ c1) (hA1 : A1 = none → c1 = 0) :
    Calls Try.prog 16 #[.slice A1 (penc l).length c1, .func (.func 24) #[] #[.pointer (some ⟨p, 0, none⟩), .pointer (some ⟨O, 0, none⟩)]] w (BackR 0 O w) := by
  have h := back_full (A1 := A1) (c1 := c1) [] (by simp) (by simp) h5 hlen hp hO hl hok hpO (by rw [List.append_nil]; exact hs1) hB (by rw [List.append_nil]; exact hc1) hA1 false 0 rfl rfl
  rwa [List.append_nil] at h
end
end Go.Proofs.Ytajcfpldjomceaa
