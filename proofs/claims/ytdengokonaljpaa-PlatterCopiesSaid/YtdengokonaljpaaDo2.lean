/- The statements' Do: crashes, planned faults, and the whole. -/
import Derived.Test.YtdengokonaljpaaDo
import Derived.Deep.DeepCutAuto
namespace Go.Proofs.Ytdengokonaljpaa
open Go.RowKit Go.Maps

theorem bool_parts : ∃ i, Try.prog.info? 4 = some i ∧ i.zero = some (.bool false) ∧ i.size = 1 ∧ i.bytes = 1 := by
  have h : (Try.prog.info? 4).map (fun i => (i.zero, i.size, i.bytes)) = some (some (.bool false), 1, 1) := by kernel_rfl
  obtain ⟨i, hi, hh⟩ := Option.map_eq_some_iff.1 h
  simp only [Prod.mk.injEq] at hh
  exact ⟨i, hi, hh.1, hh.2.1, hh.2.2⟩
theorem bools_one (l : List Bool) : ∀ u ∈ bools l, u.oneCell' = true := by
  intro u hu
  unfold bools at hu
  obtain ⟨n, _, rfl⟩ := List.mem_map.1 hu
  rfl
theorem bools_length (l : List Bool) : (bools l).length = l.length := by unfold bools; rw [List.length_map]
theorem sl_of_own {w : World} {base : Nat} {e : TypeId} {size n c : Nat} {A : Option Addr} {xs : List Value} (h : w.ownsRow base e size (.slice A n c) n xs) (hl : xs.length = n * size) : Sl w w.heap.size A xs ∧ ∀ b o, A = some ⟨b, o, none⟩ → base ≤ b := by
  rcases h.2 with ⟨h', hn⟩ | ⟨g, cap, cur, h', hb, hg, hnc, _⟩
  · injection h' with hA _ _
    subst hA
    exact ⟨.inl (List.eq_nil_of_length_eq_zero (by rw [hl, hn, Nat.zero_mul])), fun b o e => by cases e⟩
  · injection h' with hA _ _
    subst hA
    refine ⟨.inr ⟨g, 0, rfl, ?_, fun i hi => ?_⟩, fun b o e => by injection e with e; injection e with e _; omega⟩
    · rcases Nat.lt_or_ge g w.heap.size with hlt | hge
      · exact hlt
      · rw [Array.getElem?_eq_none hge] at hg; cases hg
    · rw [Nat.zero_add]
      have := h.cellAt i (by omega)
      rw [this, List.getElem?_eq_getElem hi]

theorem own_is {g k n c : Nat} (h : (Value.slice (some ⟨g, 0, none⟩) n c).ownBlock = some k) : g ≤ k := by
  have : g = k := by simpa [Value.ownBlock] using h
  omega
section
variable {w : World} {F G : Nat → Prop} {p m : Nat} {st : PSt} {N : Nat}
set_option maxHeartbeats 2000000 in
theorem do_crash (h : Duo w F G p m st) (hf : Fair st N) (hN : N < 1000) (n : Int) (b mask : Nat) (K : Option Addr) (ck : Nat) (keep : List Bool) (Q : Option Addr) (cq : Nat) (fl : List (Int × Int))
    {B : Nat} (hB : B ≤ w.heap.size) (hFB : ∀ i, F i ∨ G i → B ≤ i) (hck : keep.length ≤ ck) (hK : K = none → ck = 0) (hk : keep.length ≤ 200) (hsl : Sl w B K (bools keep)) :
    Calls Try.prog 12 #[.pointer (some ⟨p, 0, none⟩), .pointer (some ⟨m, 0, none⟩), .agg (deedV 7 n b mask K ck keep Q cq fl)] w (DoPost w F G p m (st.crash keep)) := by
  obtain ⟨i0, hi0, hz0, hs0, hb0⟩ := bool_parts
  have hbw : Below w.heap.size w (w.alloc (.cells (deedV 7 n b mask K ck keep Q cq fl) 35)) := (Below.refl _ _).alloc (Nat.le_refl _) _
  have h0 := h.below hbw
  have hlt := h.lt
  have hfit := Fair.fits h
  have hF0 : ¬ F w.heap.size := fun hx => by have := hlt _ (.inl hx); omega
  have c4 : (w.alloc (.cells (deedV 7 n b mask K ck keep Q cq fl) 35)).cell? ⟨w.heap.size, 4, none⟩ = some (.slice K keep.length ck) := (cell_fresh rfl).trans rfl
  have hs1 : Sl (w.alloc (.cells (deedV 7 n b mask K ck keep Q cq fl) 35)) B K (bools keep) := hsl.below (hbw.mono hB)
  go_enter Try.func12, Try.ntmps12
  go_upto_region 18 with fail
  generalize hW0 : w.alloc (.cells (deedV 7 n b mask K ck keep Q cq fl) 35) = W0 at *
  clear hW0
  have hW : w.heap.size ≤ W0.heap.size := hbw.size
  have hslot := World.block_lt_of_cell? _ _ c4
  have Hbw := Lib.hid hbw
  clear hbw
  go_wp2_with (at_builtin; refine wpList_append_sl (v := .slice (some ⟨W0.heap.size, 0, none⟩) 0 0) _ rfl (.tmp 75) (.tmp 77) _ rfl Try.underlying32 hi0 hz0 hs0 hb0 rfl rfl (World.ownsRow_lit W0 #[] 0 (Nat.le_refl _) (by decide) rfl) rfl (bools_length keep).symm hK ((hs1.below ((Below.refl _ _).alloc (Nat.le_trans hB hW) _)).more (Nat.le_trans hB hW)) (bools_one keep) (by rw [bools_length]; exact hck) (by rw [bools_length]; unfold maxLen; omega) (by rw [bools_length]; omega) (by simp) ?_; intro v2 w2 hown hgr hbl)
  have hown' : w2.ownsRow W0.heap.size 4 1 v2 keep.length (bools keep) := by simpa [bools_length] using hown
  obtain ⟨A, c, rfl⟩ := own_slice hown'
  obtain ⟨hsA, hdA⟩ := sl_of_own hown' (by rw [bools_length]; omega)
  have hb2 : Below W0.heap.size W0 w2 := ((Below.refl _ _).alloc (Nat.le_refl _) _).grown hgr (by simp) (fun k hk => own_is hk)
  have h2 := h0.below hb2
  have Hp := Lib.hid (p_crash h2 hf hN A c keep hsA (fun b o e _ hx => by have h1 := hdA b o e; have h2 := h0.lt b (.inl hx); omega))
  have x4 := (hb2.cell (p := ⟨w.heap.size, 4, none⟩) hslot).trans c4
  have hs2 := (hs1.below (hb2.mono (Nat.le_trans hB hW)))
  have Hb2 := Lib.hid hb2
  clear hown hown' hgr hbl hb2 hsA hdA
  go_wp2_with fail
  refine Hp.out.mono ?_
  rintro e w3 ⟨rfl, hm3⟩
  have x5 := hm3.cell hF0 x4
  have hdis : ∀ b o, K = some ⟨b, o, none⟩ → keep ≠ [] → b < B := by
    intro b o e hne
    rcases hsl with h0' | ⟨b', o', e', hb', _⟩
    · exact absurd (by cases keep with | nil => rfl | cons a r => simp [bools] at h0') hne
    · rw [e] at e'; injection e' with e'; injection e' with e1 _; omega
  have hs3 : Sl w3 w3.heap.size K (bools keep) := by
    by_cases hne : keep = []
    · subst hne; exact .inl rfl
    · exact hm3.sl (hs2.more (Nat.le_trans hB (Nat.le_trans hW Hb2.out.size))) (fun b o e hx => by have h1 := hdis b o e hne; have h2 := hFB b (.inl hx); omega)
  have Hm := Lib.hid (m_crash hm3 hf hN hfit K ck (by omega) hck hs3 (fun b o e hne hx => by have h1 := hdis b o e hne; have h2 := hFB b (.inr hx); omega))
  clear hm3 hs2 hs3 x4
  go_wp2_with fail
  refine Hm.out.mono ?_
  rintro e w4 ⟨rfl, hf4⟩
  have Hf := Lib.hid hf4
  clear hf4
  go_wp2_with fail
  go_ret
  exact ⟨rfl, Hf.out.base (Hbw.out.trans (Hb2.out.mono hW))⟩

set_option maxHeartbeats 2000000 in
theorem do_fail (h : Duo w F G p m st) (hf : Fair st N) (hN : N < 1000) (n : Int) (b mask : Nat) (K : Option Addr) (ck : Nat) (keep : List Bool) (Q : Option Addr) (cq : Nat) (fl : List (Int × Int))
    {B : Nat} (hB : B ≤ w.heap.size) (hFB : ∀ i, F i ∨ G i → B ≤ i) (hcq : fl.length ≤ cq) (hQ : Q = none → cq = 0) (hq : fl.length ≤ 20) (hwf : ∀ f ∈ fl, (Lit.int .i64 f.1).wf = true ∧ (Lit.int .i64 f.2).wf = true) (hsl : Sl w B Q (planCells fl)) :
    Calls Try.prog 12 #[.pointer (some ⟨p, 0, none⟩), .pointer (some ⟨m, 0, none⟩), .agg (deedV 8 n b mask K ck keep Q cq fl)] w (DoPost w F G p m (st.plans fl)) := by
  have hbw : Below w.heap.size w (w.alloc (.cells (deedV 8 n b mask K ck keep Q cq fl) 35)) := (Below.refl _ _).alloc (Nat.le_refl _) _
  have h0 := h.below hbw
  have hlt := h.lt
  have hF0 : ¬ F w.heap.size := fun hx => by have := hlt _ (.inl hx); omega
  have c5 : (w.alloc (.cells (deedV 8 n b mask K ck keep Q cq fl) 35)).cell? ⟨w.heap.size, 5, none⟩ = some (.slice Q fl.length cq) := (cell_fresh rfl).trans rfl
  have hs1 : Sl (w.alloc (.cells (deedV 8 n b mask K ck keep Q cq fl) 35)) B Q (planCells fl) := hsl.below (hbw.mono hB)
  have hfl := faults_any Q cq fl hq (w.alloc (.cells (deedV 8 n b mask K ck keep Q cq fl) 35)) (hs1.more (Nat.le_trans hB hbw.size))
  have Hfl := Lib.hid hfl
  have C5 := Lib.hid c5
  clear hfl c5
  go_enter Try.func12, Try.ntmps12
  go_wp2_with fail
  refine Hfl.out.mono ?_
  rintro e w2 ⟨v2, rfl, hown, hb2⟩
  obtain ⟨A, c, rfl⟩ := own_slice hown
  obtain ⟨hsA, hdA⟩ := sl_of_own hown (planCells_length fl)
  have h2 := h0.below hb2
  have hslot := World.block_lt_of_cell? _ _ C5.out
  have Hp := Lib.hid (p_fail h2 hf hN A c fl (by omega) hwf hsA (fun b o e hx => by have h1 := hdA b o e; have h2 := h0.lt b (.inl hx); omega))
  have x4 := (hb2.cell (p := ⟨w.heap.size, 5, none⟩) hslot).trans C5.out
  have hs2 := (hs1.below (hb2.mono (Nat.le_trans hB hbw.size)))
  have Hb2 := Lib.hid (hbw.trans (hb2.mono hbw.size))
  clear hown hb2 hsA hdA hslot
  go_wp2_with fail
  refine Hp.out.mono ?_
  rintro e w3 ⟨rfl, hm3⟩
  have x5 := hm3.cell hF0 x4
  have hs3 : Sl w3 w3.heap.size Q (planCells fl) := by
    rcases hsl with h0' | ⟨b', o', e', hb', hc'⟩
    · exact .inl h0'
    · exact hm3.sl (hs2.more (Nat.le_trans hB Hb2.out.size)) (fun b o e hx => by
        rw [e'] at e; injection e with e; injection e with e1 _
        have h2 := hFB b (.inl hx); omega)
  have Hm := Lib.hid (m_fail hm3 Q cq (by omega) hcq hQ hs3)
  clear hm3 hs2 hs3 x4
  go_wp2_with fail
  refine Hm.out.mono ?_
  rintro e w4 ⟨rfl, hf4⟩
  have Hf := Lib.hid hf4
  clear hf4
  go_wp2_with fail
  go_ret
  exact ⟨rfl, Hf.out.base Hb2.out⟩

set_option maxHeartbeats 1000000 in
theorem do_else (d : Int) (hd : ¬ (0 ≤ d ∧ d ≤ 9)) (h : Duo w F G p m st) (n : Int) (b mask : Nat) (K : Option Addr) (ck : Nat) (keep : List Bool) (Q : Option Addr) (cq : Nat) (fl : List (Int × Int)) :
    Calls Try.prog 12 #[.pointer (some ⟨p, 0, none⟩), .pointer (some ⟨m, 0, none⟩), .agg (deedV d n b mask K ck keep Q cq fl)] w (DoPost w F G p m st) := by
  have hbw : Below w.heap.size w (w.alloc (.cells (deedV d n b mask K ck keep Q cq fl) 35)) := (Below.refl _ _).alloc (Nat.le_refl _) _
  have h0 := h.below hbw
  have hfin : Fin w (w.alloc (.cells (deedV d n b mask K ck keep Q cq fl) 35)) F G p m st := ⟨F, G, h0, fun _ h => .inl h, fun _ h => .inl h, Chg.of_below _ hbw⟩
  have H := Lib.hid hfin
  have d0 : (d == 0) = false := by simp; omega
  have d1 : (d == 1) = false := by simp; omega
  have d2 : (d == 2) = false := by simp; omega
  have d3 : (d == 3) = false := by simp; omega
  have d4 : (d == 4) = false := by simp; omega
  have d5 : (d == 5) = false := by simp; omega
  have d6 : (d == 6) = false := by simp; omega
  have d7 : (d == 7) = false := by simp; omega
  have d8 : (d == 8) = false := by simp; omega
  have d9 : (d == 9) = false := by simp; omega
  clear hd h0 hfin hbw
  go_enter Try.func12, Try.ntmps12
  go_wp2_with fail
  go_ret
  exact ⟨rfl, H.out⟩
end

/-- What is done. -/
structure Deed where
  d : Int
  n : Int
  b : Nat
  mask : Nat
  K : Option Addr
  ck : Nat
  keep : List Bool
  Q : Option Addr
  cq : Nat
  fl : List (Int × Int)
abbrev Deed.cells (x : Deed) : Array Value := deedV x.d x.n x.b x.mask x.K x.ck x.keep x.Q x.cq x.fl
structure Deed.ok (x : Deed) (w : World) (B : Nat) : Prop where
  b : x.b < 256
  mask : x.mask < 4294967296
  d : (Lit.int .i64 x.d).wf = true
  n : (Lit.int .i64 x.n).wf = true
  ck : x.keep.length ≤ x.ck
  K : x.K = none → x.ck = 0
  hk : Sl w B x.K (bools x.keep)
  cq : x.fl.length ≤ x.cq
  Q : x.Q = none → x.cq = 0
  hq : Sl w B x.Q (planCells x.fl)
  wf : ∀ f ∈ x.fl, (Lit.int .i64 f.1).wf = true ∧ (Lit.int .i64 f.2).wf = true
  lk : x.keep.length ≤ maxLen
  lq : x.fl.length ≤ maxLen
theorem Deed.ok.below {x : Deed} {w w' : World} {B : Nat} (h : x.ok w B) (hb : Below B w w') : x.ok w' B := ⟨h.b, h.mask, h.d, h.n, h.ck, h.K, h.hk.below hb, h.cq, h.Q, h.hq.below hb, h.wf, h.lk, h.lq⟩
/-- The state behind it. -/
def PSt.deed (st : PSt) (x : Deed) : PSt :=
  if 0 ≤ x.d ∧ x.d ≤ 3 then (st.write x.n (dataOf x.b)).2
  else if x.d = 4 ∨ x.d = 5 then st.count 1
  else if x.d = 6 then st.sync.2
  else if x.d = 7 then st.crash x.keep
  else if x.d = 8 then st.plans x.fl
  else if x.d = 9 then (st.rot x.n x.b x.mask).2
  else st
theorem do_any {w : World} {F G : Nat → Prop} {p m : Nat} {st : PSt} {N : Nat} (h : Duo w F G p m st) (hf : Fair st N) (hN : N < 1000) {x : Deed} {B : Nat} (hx : x.ok w B) (hB : B ≤ w.heap.size) (hFB : ∀ i, F i ∨ G i → B ≤ i) (hk : x.keep.length ≤ 200) (hq : x.fl.length ≤ 20) :
    Calls Try.prog 12 #[.pointer (some ⟨p, 0, none⟩), .pointer (some ⟨m, 0, none⟩), .agg x.cells] w (DoPost w F G p m (st.deed x)) := by
  obtain ⟨d, n, b, mask, K, ck, keep, Q, cq, fl⟩ := x
  by_cases h0 : 0 ≤ d ∧ d ≤ 3
  · rw [show st.deed ⟨d, n, b, mask, K, ck, keep, Q, cq, fl⟩ = (st.write n (dataOf b)).2 by unfold PSt.deed; rw [if_pos h0]]
    exact do_write d (by omega) h hf hN n b mask hx.b K ck keep Q cq fl
  by_cases h1 : d = 4 ∨ d = 5
  · rw [show st.deed ⟨d, n, b, mask, K, ck, keep, Q, cq, fl⟩ = st.count 1 by unfold PSt.deed; rw [if_neg h0, if_pos h1]]
    exact do_read d h1 h hf hN n b mask K ck keep Q cq fl
  by_cases h2 : d = 6
  · subst h2
    exact do_sync h hf hN n b mask K ck keep Q cq fl
  by_cases h3 : d = 7
  · subst h3
    exact do_crash h hf hN n b mask K ck keep Q cq fl hB hFB hx.ck hx.K hk hx.hk
  by_cases h4 : d = 8
  · subst h4
    exact do_fail h hf hN n b mask K ck keep Q cq fl hB hFB hx.cq hx.Q hq hx.wf hx.hq
  by_cases h5 : d = 9
  · subst h5
    exact do_rot h n b mask hx.b hx.mask K ck keep Q cq fl
  · rw [show st.deed ⟨d, n, b, mask, K, ck, keep, Q, cq, fl⟩ = st by unfold PSt.deed; rw [if_neg h0, if_neg h1, if_neg h2, if_neg h3, if_neg h4, if_neg h5]]
    exact do_else d (by omega) h n b mask K ck keep Q cq fl
end Go.Proofs.Ytdengokonaljpaa
