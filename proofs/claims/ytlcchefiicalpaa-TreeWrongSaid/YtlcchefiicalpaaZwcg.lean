/- The program's plant. -/
import Derived.Test.YtlcchefiicalpaaZwcf
namespace Go.Proofs.Ytlcchefiicalpaa
open Go.RowKit
namespace Tr
/-- The parts of a root that is not too high. -/
def PlOk : (h : Nat) → List (Pt h) → Prop
  | 0, l => l.length ≤ 8 ^ 6
  | h + 1, l => match l with
    | [] => True
    | [.inl _] => True
    | [.inr m] => PlOk h m
    | l => l.length ≤ 8 ^ (5 - h)
theorem plant_many {σ : Type} (S : Sto σ) {h : Nat} {l : List (Pt (h + 1))} (st : σ) (h2 : 2 ≤ l.length) : plant S (h + 1) l st = plantUp S (5 - (h + 1)) (h + 1) l st ∧ (PlOk (h + 1) l ↔ l.length ≤ 8 ^ (5 - h)) := by
  cases l with
  | nil => simp at h2
  | cons x l =>
    cases l with
    | nil => simp at h2
    | cons y l =>
      refine ⟨?_, ?_⟩
      · cases x <;> rfl
      · cases x <;> exact Iff.rfl
theorem plant_none {σ : Type} (S : Sto σ) {h : Nat} (st : σ) : plant S h [] st = plantUp S 5 0 [] st := by cases h <;> rfl
theorem plant_zero {σ : Type} (S : Sto σ) {l : List (Pt 0)} (st : σ) : plant S 0 l st = plantUp S 5 0 l st := rfl
theorem plant_old {σ : Type} (S : Sto σ) {h : Nat} {b : Br} (st : σ) : plant S (h + 1) [old b] st = (st, .ok (b.k, (h : Int))) := rfl
theorem plant_frs {σ : Type} (S : Sto σ) {h : Nat} {m : List (Pt h)} (st : σ) : plant S (h + 1) [frs m] st = plant S h m st := rfl
theorem up_save {σ : Type} (S : Sto σ) {f h : Nat} {l : List (Pt h)} (st : σ) (h8 : l.length ≤ 8) : plantUp S f h l st = (match save S h st l with
      | (st', .error e) => (st', .error e)
      | (st', .ok k) => (st', .ok (k, (h : Int)))) := by
  unfold plantUp
  rw [if_pos h8]
  rfl
theorem up_more {σ : Type} (S : Sto σ) {f h : Nat} {l : List (Pt h)} (st : σ) (h8 : 8 < l.length) : plantUp S (f + 1) h l st = plantUp S f (h + 1) (pieces l) st := by
  conv => lhs; unfold plantUp
  rw [if_neg (by omega)]
theorem pieces_len {h : Nat} (l : List (Pt h)) : (pieces l).length = (l.length + 7) / 8 := by unfold pieces; rw [List.length_map, List.length_range]
def rootV (k : Nd.T3) (h : Int) : Value := .agg #[.int .i64 k.1, .int .i64 k.2.1, .int .i64 k.2.2, .int .i64 h]
end Tr
theorem narrowed_few (v : Value) (A : Option Addr) (n c : Nat) (h8 : n ≤ 8) (w : World) : Calls Try.prog 85 #[v, .slice A n c] w fun e w' => e = .returned (.tuple #[.slice A n c, .int .i64 0]) ∧ w = w' := by
  have z0 : decide ((n : Int) ≤ 8) = true := by rw [decide_eq_true_eq]; omega
  have z1 : decide (n ≤ 8) = true := by rw [decide_eq_true_eq]; exact h8
  clear h8
  go_enter Try.func85, Try.ntmps85
  go_wp2_with fail
  go_returns
  exact ⟨rfl, rfl⟩
/-- A block of one's own beside the store. -/
structure RcW {σ : Type} (D : StoI σ) (W0 : World) (X : Nat → Prop) (st : σ) (w : World) (Xr : Nat → Prop) (rb : Nat) (t : TypeId) (C : Array Value) : Prop where
  rep : D.Rep w Xr st
  stp : Stp W0 X w Xr
  blk : Blk w rb t C
  far : ¬ Xr rb
  ge : W0.heap.size ≤ rb
section
variable {σ : Type} {D : StoI σ} {W0 : World} {X : Nat → Prop} {st : σ} {w : World} {Xr : Nat → Prop} {rb : Nat} {t : TypeId} {C : Array Value}
theorem RcW.step (h : RcW D W0 X st w Xr rb t C) {w' : World} {X' : Nat → Prop} {st' : σ} (hr : D.Rep w' X' st') (hs : Stp w Xr w' X') : RcW D W0 X st' w' X' rb t C :=
  ⟨hr, h.stp.trans hs, h.blk.keep (hs.chg.block rb h.blk.lt h.far), hs.far h.blk.lt h.far, h.ge⟩
theorem RcW.below (h : RcW D W0 X st w Xr rb t C) {w' : World} (hb : Below w.heap.size w w') : RcW D W0 X st w' Xr rb t C := h.step (D.below h.rep hb) (.of_below Xr hb)
theorem RcW.start (hr : D.Rep W0 X st) (t : TypeId) (C : Array Value) : RcW D W0 X st (W0.alloc (.cells C t)) X W0.heap.size t C :=
  ⟨D.below hr (below_alloc1 _ _), .of_below X (below_alloc1 _ _), Blk.new _ _ _, D.fresh hr, Nat.le_refl _⟩
theorem RcW.four {a b c d : Value} (h : RcW D W0 X st w Xr rb t #[a, b, c, d]) (a' b' c' d' : Value) :
    ∃ s1 s2 s3 s4, w.setCell ⟨rb, 0, none⟩ a' = s1 ∧ s1.setCell ⟨rb, 1, none⟩ b' = s2 ∧ s2.setCell ⟨rb, 2, none⟩ c' = s3 ∧ s3.setCell ⟨rb, 3, none⟩ d' = s4 ∧
      (w.frozen? ⟨rb, 0, none⟩ = false ∧ s1.frozen? ⟨rb, 1, none⟩ = false ∧ s2.frozen? ⟨rb, 2, none⟩ = false ∧ s3.frozen? ⟨rb, 3, none⟩ = false) ∧
      (w.cell? ⟨rb, 0, none⟩ = some a ∧ s1.cell? ⟨rb, 1, none⟩ = some b ∧ s2.cell? ⟨rb, 2, none⟩ = some c ∧ s3.cell? ⟨rb, 3, none⟩ = some d) ∧
      (s4.cell? ⟨rb, 0, none⟩ = some a' ∧ s4.cell? ⟨rb, 1, none⟩ = some b' ∧ s4.cell? ⟨rb, 2, none⟩ = some c' ∧ s4.cell? ⟨rb, 3, none⟩ = some d') ∧ RcW D W0 X st s4 Xr rb t #[a', b', c', d'] := by
  refine ⟨_, _, _, _, rfl, rfl, rfl, rfl, ?_⟩
  have k1 := h.blk
  have r1 : Blk (w.setCell ⟨rb, 0, none⟩ a') rb t #[a', b, c, d] := k1.set_ 0 _
  have r2 : Blk ((w.setCell ⟨rb, 0, none⟩ a').setCell ⟨rb, 1, none⟩ b') rb t #[a', b', c, d] := r1.set_ 1 _
  have r3 : Blk (((w.setCell ⟨rb, 0, none⟩ a').setCell ⟨rb, 1, none⟩ b').setCell ⟨rb, 2, none⟩ c') rb t #[a', b', c', d] := r2.set_ 2 _
  have r4 : Blk ((((w.setCell ⟨rb, 0, none⟩ a').setCell ⟨rb, 1, none⟩ b').setCell ⟨rb, 2, none⟩ c').setCell ⟨rb, 3, none⟩ d') rb t #[a', b', c', d'] := r3.set_ 3 _
  have hC : Chg (fun b => b = rb) w ((((w.setCell ⟨rb, 0, none⟩ a').setCell ⟨rb, 1, none⟩ b').setCell ⟨rb, 2, none⟩ c').setCell ⟨rb, 3, none⟩ d') := ((((Chg.refl (fun b => b = rb) w).setCell (p := ⟨rb, 0, none⟩) (.inl rfl) _).setCell (p := ⟨rb, 1, none⟩) (.inl rfl) _).setCell (p := ⟨rb, 2, none⟩) (.inl rfl) _).setCell (p := ⟨rb, 3, none⟩) (.inl rfl) _
  obtain ⟨e1, e2⟩ := D.end_ h.rep h.stp hC fun b hb => by subst hb; exact ⟨h.ge, h.far⟩
  exact ⟨⟨k1.frozen 0, r1.frozen 1, r2.frozen 2, r3.frozen 3⟩, ⟨k1.cell 0, r1.cell 1, r2.cell 2, r3.cell 3⟩, ⟨r4.cell 0, r4.cell 1, r4.cell 2, r4.cell 3⟩, e1, e2, r4, h.far, h.ge⟩
end
section
variable {σ : Type} (D : StoI σ)
/-- What a function answers that gives a root, or an error. -/
def RtR (w : World) (X : Nat → Prop) (st' : σ) (r : Except Int (Nd.T3 × Int)) (e : Ending) (w' : World) : Prop := StR σ D.Rep w X st' (fun _ _ => match r with
    | .error er => er ≠ 0 ∧ ∃ k h, e = .returned (.tuple #[Tr.rootV k h, .int .i64 er])
    | .ok (k, h) => e = .returned (.tuple #[Tr.rootV k h, .int .i64 0])) w'
/-- Where the first loop of plant stands. -/
structure PlI (W0 : World) (X : Nat → Prop) (st : σ) (R : Tr.Res σ (Nd.T3 × Int)) (h : Nat) (l : List (Tr.Pt h)) (A : Option Addr) (c : Nat) : Prop where
  plx : PLX X W0 h l A c
  wf : Tr.Wfs l
  wt : Tr.wts l ≤ 1000000
  ok : Tr.PlOk h l
  h5 : h ≤ 5
  eq : R = Tr.plant D.S h l st
/-- Where the second loop stands. -/
structure PlU (W0 : World) (X : Nat → Prop) (st : σ) (R : Tr.Res σ (Nd.T3 × Int)) (rb : Nat) (h : Nat) (l : List (Tr.Pt h)) (A : Option Addr) (c : Nat) (w : World) : Prop where
  plx : PLX X w h l A c
  wf : Tr.Wfs l
  wt : Tr.wts l ≤ 1000000
  ok : l.length ≤ 8 ^ (5 - h + 1)
  h5 : h ≤ 5
  eq : R = Tr.plantUp D.S (5 - h) h l st
  rc : RcW D W0 X st w X rb 66 #[.int .i64 0, .int .i64 0, .int .i64 0, .int .i64 0]
section
variable {D} {W0 W1 : World} {X : Nat → Prop} {st : σ} {R : Tr.Res σ (Nd.T3 × Int)} {rb h : Nat} {l : List (Tr.Pt h)} {A : Option Addr} {c : Nat}
theorem PlI.none_ {l : List (Tr.Pt h)} (hI : PlI D W1 X st R h l A c) (h0 : l.length = 0) (hr : RcW D W0 X st W1 X rb 66 #[.int .i64 0, .int .i64 0, .int .i64 0, .int .i64 0]) : PlU D W0 X st R rb 0 [] A c W1 := by
  obtain rfl := List.eq_nil_of_length_eq_zero h0
  exact ⟨fun u q => by
    obtain ⟨cs, h1, h2⟩ := hI.plx u q
    have hc : cs = [] := List.eq_nil_of_length_eq_zero h2.1
    subst hc
    exact ⟨[], h1, PRs.nil _ _⟩, Tr.Wfs.nil, Nat.zero_le _, Nat.zero_le _, Nat.zero_le _, hI.eq.trans (Tr.plant_none D.S st), hr⟩
theorem PlI.leaf {l : List (Tr.Pt 0)} (hI : PlI D W1 X st R 0 l A c) (hr : RcW D W0 X st W1 X rb 66 #[.int .i64 0, .int .i64 0, .int .i64 0, .int .i64 0]) : PlU D W0 X st R rb 0 l A c W1 :=
  ⟨hI.plx, hI.wf, hI.wt, hI.ok, hI.h5, hI.eq, hr⟩
theorem PlI.many {h : Nat} {l : List (Tr.Pt (h + 1))} (hI : PlI D W1 X st R (h + 1) l A c) (h2 : 2 ≤ l.length) (hr : RcW D W0 X st W1 X rb 66 #[.int .i64 0, .int .i64 0, .int .i64 0, .int .i64 0]) : PlU D W0 X st R rb (h + 1) l A c W1 := by
  obtain ⟨e1, e2⟩ := Tr.plant_many D.S st h2
  refine ⟨hI.plx, hI.wf, hI.wt, ?_, hI.h5, hI.eq.trans e1, hr⟩
  have := e2.1 hI.ok
  rwa [show 5 - (h + 1) + 1 = 5 - h by have := hI.h5; omega]
theorem PlI.down {h : Nat} {m : List (Tr.Pt h)} (hI : PlI D W1 X st R (h + 1) [Tr.frs m] A c) {xA : Option Addr} {xc : Nat} (hp : PLX X W1 h m xA xc) : PlI D W1 X st R h m xA xc :=
  ⟨hp, (hI.wf _ (List.mem_cons_self ..)).1, by
    have h1 := hI.wt
    rw [Tr.wts_cons, Tr.wts_nil, Tr.wt_frs] at h1
    omega, hI.ok, by have := hI.h5; omega, hI.eq⟩
theorem PlU.up {w6 w7 : World} {A' : Option Addr} {c' : Nat} (hU : PlU D W0 X st R rb h l A c w6) (h8 : 8 < l.length) (hb : Below w6.heap.size w6 w7) (hp : PLX X w7 (h + 1) (Tr.pieces l) A' c') : h < 5 ∧ PlU D W0 X st R rb (h + 1) (Tr.pieces l) A' c' w7 := by
  have h5 : h < 5 := by
    rcases Nat.lt_or_ge h 5 with h1 | h1
    · exact h1
    · have h2 := hU.h5
      have h3 := hU.ok
      rw [show 5 - h + 1 = 1 by omega] at h3
      omega
  obtain ⟨w1, w2⟩ := Tr.pieces_wf hU.wf
  refine ⟨h5, hp, w1, by rw [w2]; exact hU.wt, ?_, h5, ?_, hU.rc.below hb⟩
  · rw [Tr.pieces_len, show 5 - (h + 1) + 1 = 5 - h by omega]
    have h3 := hU.ok
    rw [Nat.pow_succ] at h3
    omega
  · rw [hU.eq, show 5 - h = (5 - (h + 1)) + 1 by omega, Tr.up_more D.S st h8]
end
set_option maxRecDepth 8000 in
set_option maxHeartbeats 16000000 in
theorem plant_any (h : Nat) {w : World} {X : Nat → Prop} {st : σ} {l : List (Tr.Pt h)} {A : Option Addr} {c : Nat} (hr : D.Rep w X st) (hl : PLX X w h l A c) (hw : Tr.Wfs l) (hwt : Tr.wts l ≤ 1000000) (hok : Tr.PlOk h l) (h5 : h ≤ 5) :
    Calls Try.prog 66 #[D.val, .slice A l.length c, .int .i64 (h : Int)] w (RtR D w X (Tr.plant D.S h l st).1 (Tr.plant D.S h l st).2) := by
  obtain ⟨R, hR⟩ : ∃ R, R = Tr.plant D.S h l st := ⟨_, rfl⟩
  rw [← hR]
  have hc0 := RcW.start hr 66 #[.int .i64 0, .int .i64 0, .int .i64 0, .int .i64 0]
  obtain ⟨z, hz⟩ : ∃ z : Int, z = (h : Int) := ⟨_, rfl⟩
  obtain ⟨W1, hW1⟩ : ∃ W, w.alloc (.cells #[.int .i64 0, .int .i64 0, .int .i64 0, .int .i64 0] 66) = W := ⟨_, rfl⟩
  have hb1 : Below w.heap.size w W1 := by rw [← hW1]; exact below_alloc1 _ _
  rw [hW1] at hc0
  obtain ⟨rb, hrb⟩ : ∃ r, w.heap.size = r := ⟨_, rfl⟩
  rw [hrb] at hc0
  have HC := Lib.hid hc0
  have HI := Lib.hid (show PlI D W1 X st R h l A c from ⟨Fast.below hl hb1, hw, hwt, hok, h5, hR⟩)
  have Hz := Lib.hid hz
  have HXl := Lib.hid (show ∀ u : World, w.heap.size ≤ u.heap.size → ∀ b, X b → b < u.heap.size from fun u hu b hb => Nat.lt_of_lt_of_le (D.lt hr hb) hu)
  rw [← hz]
  clear hc0 hr hl hw hwt hok h5 hR hb1 hz
  go_enter Try.func66, Try.ntmps66
  go_wp2_with fail
  clear hW1 hrb
  go_loopw [1, 2] (fun v1 v2 wr => ∃ (h' : Nat) (l' : List (Tr.Pt h')) (A' : Option Addr) (c' : Nat) (z' : Int), v1 = .slice A' l'.length c' ∧ v2 = .int .i64 z' ∧ z' = (h' : Int) ∧ W1 = wr ∧ PlI D W1 X st R h' l' A' c') (fun _ v2 _ => (intOf v2).toNat)
  case atStart => exact ⟨h, l, A, c, z, rfl, rfl, Hz.out, rfl, HI.out⟩
  case round =>
    clear HI Hz l A c z h
    obtain ⟨h', l', A', c', z', rfl, rfl, hz', hwr, hI⟩ := hrel
    subst hwr
    obtain ⟨n, hn⟩ : ∃ n, l'.length = n := ⟨_, rfl⟩
    have HI := Lib.hid hI
    have Hn := Lib.hid hn
    have Hz := Lib.hid hz'
    rw [hn]
    cases h' with
    | zero =>
      have g0 : decide (0 < z') = false := by rw [decide_eq_false_iff_not]; omega
      by_cases hn0 : n = 0
      · have e0 : ((n : Int) == 0) = true := by rw [hn0]; rfl
        have HU := Lib.hid (hI.none_ (hn.trans hn0) HC.out)
        have Hn0 := Lib.hid hn0
        clear hI hn hz' hn0
        go_wp2_with fail
        go_loopw [1, 2] (fun v1 v2 wr => ∃ (h' : Nat) (l' : List (Tr.Pt h')) (A' : Option Addr) (c' : Nat) (z' : Int), v1 = .slice A' l'.length c' ∧ v2 = .int .i64 z' ∧ z' = (h' : Int) ∧ PlU D w X st R rb h' l' A' c' wr) (fun v1 _ _ => lenM v1)
        case atStart => exact ⟨0, [], A', c', 0, by rw [Hn0.out]; rfl, rfl, rfl, HU.out⟩
        case round =>
          clear HU HI Hz Hn Hn0 g0 e0
          obtain ⟨h2, l2, A2, c2, z2, rfl, rfl, hz2, hU⟩ := hrel
          obtain ⟨n2, hn2⟩ : ∃ n, l2.length = n := ⟨_, rfl⟩
          have HU := Lib.hid hU
          have Hn2 := Lib.hid hn2
          have Hz2 := Lib.hid hz2
          by_cases h8 : 8 < n2
          · have d1 : decide ((8 : Int) < (n2 : Int)) = true := by rw [decide_eq_true_eq]; omega
            have d1' : decide (8 < n2) = true := by rw [decide_eq_true_eq]; exact h8
            have h25 : h2 < 5 := by
              rcases Nat.lt_or_ge h2 5 with h1 | h1
              · exact h1
              · have h2' := hU.h5
                have h3 := hU.ok
                rw [show 5 - h2 + 1 = 1 by omega, hn2] at h3
                omega
            have d2 : decide (z2 < 5) = true := by rw [decide_eq_true_eq]; omega
            have s2 : wrap64 (z2 + 1) = z2 + 1 := by simp only [wrap64]; omega
            have HP0 := pieces_any (fun b hb => HXl.out wr hU.rc.stp.chg.size b hb) hU.plx (by have := hU.wf.len; have := hU.wt; omega)
            rw [hn2] at HP0 ⊢
            have HP := Lib.hid HP0
            have H8 := Lib.hid h8
            clear hU hn2 hz2 h8 h25 HP0
            go_wp2_with (go_at_call 84; (with_reducible refine HP.out.mono ?_); rintro e w7 ⟨hb7, A7, c7, rfl, hp7⟩; (have N7 := Lib.hid (HU.out.up (by rw [Hn2.out]; exact H8.out) hb7 hp7).2); clear hb7 hp7)
            go_roundw
            case rel => exact ⟨h2 + 1, Tr.pieces l2, A7, c7, z2 + 1, rfl, by go_num, by rw [Hz2.out]; omega, N7.out⟩
            case measure => show (Tr.pieces l2).length < n2; rw [Tr.pieces_len, Hn2.out]; have := H8.out; omega
          · have d1 : decide ((8 : Int) < (n2 : Int)) = false := by rw [decide_eq_false_iff_not]; omega
            have d1' : decide (8 < n2) = false := by rw [decide_eq_false_iff_not]; exact h8
            have HNa := Lib.hid (fun u => narrowed_few D.val A2 n2 c2 (by omega) u)
            have hup := Tr.up_save D.S (f := 5 - h2) (h := h2) (l := l2) st (by rw [hn2]; omega)
            rw [← hU.eq] at hup
            have HSv0 := save_is D h2 (by have := hU.h5; omega) hU.rc.rep hU.plx hU.wf hU.wt
            rw [hn2, ← hz2] at HSv0
            rw [hn2]
            rw [← hz2] at hup
            unfold SvR at HSv0
            rcases hsv : Tr.save D.S h2 st l2 with ⟨s5, er5 | k5⟩
            · rw [hsv] at HSv0 hup
              dsimp only at HSv0 hup
              have HSv := Lib.hid HSv0
              have FE := Lib.hid hup
              clear hU hn2 hz2 h8 hup HSv0 hsv
              go_wp2_with (first
                | (go_at_call 85; (with_reducible refine (HNa.out _).mono ?_); rintro e w7 ⟨rfl, rfl⟩)
                | (go_at_call 86; (with_reducible refine HSv.out.mono ?_); rintro e w5 ⟨X5, hR5, hS5, hne, k, rfl⟩; (dsimp only [Tr.kidV]); (obtain ⟨W9, hW9⟩ : ∃ W, w5.alloc (.cells #[.int .i64 k.1, .int .i64 k.2.1, .int .i64 k.2.2] 58) = W := ⟨_, rfl⟩); (have C9 := (HU.out.rc.step hR5 hS5).below (hW9 ▸ below_alloc1 _ _)); (obtain ⟨j1, j2, j3, j4, b1, b2, b3, b4, ⟨a0, a1, a2, a3⟩, ⟨o0, o1, o2, o3⟩, ⟨x0, x1, x2, x3⟩, S8⟩ := C9.four (.int .i64 0) (.int .i64 0) (.int .i64 0) (.int .i64 0)); (have S8 := Lib.hid S8); (have Her := Lib.hid hne); (have zE : ((er5 : Int) != 0) = true := by simpa using hne); clear C9 hne hR5 hS5))
              rw [FE.out]
              refine bodyPost_ret (v := .tuple #[Tr.rootV (0, 0, 0) 0, .int .i64 er5]) ?_ rfl ⟨X5, S8.out.rep, S8.out.stp, Her.out, (0, 0, 0), 0, rfl⟩
              simp [results, Try.results66]
              go_simp
              simp [Tr.rootV]
            · rw [hsv] at HSv0 hup
              dsimp only at HSv0 hup
              have HSv := Lib.hid HSv0
              have FE := Lib.hid hup
              clear hU hn2 hz2 h8 hup HSv0 hsv
              go_wp2_with (first
                | (go_at_call 85; (with_reducible refine (HNa.out _).mono ?_); rintro e w7 ⟨rfl, rfl⟩)
                | (go_at_call 86; (with_reducible refine HSv.out.mono ?_); rintro e w5 ⟨X5, hR5, hS5, rfl⟩; (obtain ⟨k, hk⟩ : ∃ k, k = k5 := ⟨_, rfl⟩); (have Hk5 := Lib.hid hk); rw [← hk]; (dsimp only [Tr.kidV]); (obtain ⟨W9, hW9⟩ : ∃ W, w5.alloc (.cells #[.int .i64 k.1, .int .i64 k.2.1, .int .i64 k.2.2] 58) = W := ⟨_, rfl⟩); (obtain ⟨m0, m1, m2⟩ := three_ (show Blk W9 w5.heap.size 58 #[.int .i64 k.1, .int .i64 k.2.1, .int .i64 k.2.2] from by rw [← hW9]; exact Blk.new _ _ _)); (have C9 := (HU.out.rc.step hR5 hS5).below (hW9 ▸ below_alloc1 _ _)); (obtain ⟨j1, j2, j3, j4, b1, b2, b3, b4, ⟨a0, a1, a2, a3⟩, ⟨o0, o1, o2, o3⟩, ⟨x0, x1, x2, x3⟩, S8⟩ := C9.four (.int .i64 k.1) (.int .i64 k.2.1) (.int .i64 k.2.2) (.int .i64 z2)); (have S8 := Lib.hid S8); clear C9 hR5 hS5 hk))
              rw [FE.out]
              refine bodyPost_ret (v := .tuple #[Tr.rootV k z2, .int .i64 0]) ?_ rfl ⟨X5, S8.out.rep, S8.out.stp, by rw [Hk5.out]⟩
              simp [results, Try.results66]
              go_simp
              simp [Tr.rootV]
      · have e0 : ((n : Int) == 0) = false := by rw [beq_eq_false_iff_ne]; omega
        have HU := Lib.hid (hI.leaf HC.out)
        clear hI hn hz' hn0
        go_wp2_with fail
        go_loopw [1, 2] (fun v1 v2 wr => ∃ (h' : Nat) (l' : List (Tr.Pt h')) (A' : Option Addr) (c' : Nat) (z' : Int), v1 = .slice A' l'.length c' ∧ v2 = .int .i64 z' ∧ z' = (h' : Int) ∧ PlU D w X st R rb h' l' A' c' wr) (fun v1 _ _ => lenM v1)
        case atStart => exact ⟨0, l', A', c', z', by rw [Hn.out], rfl, Hz.out, HU.out⟩
        case round =>
          clear HU HI Hz Hn g0 e0
          obtain ⟨h2, l2, A2, c2, z2, rfl, rfl, hz2, hU⟩ := hrel
          obtain ⟨n2, hn2⟩ : ∃ n, l2.length = n := ⟨_, rfl⟩
          have HU := Lib.hid hU
          have Hn2 := Lib.hid hn2
          have Hz2 := Lib.hid hz2
          by_cases h8 : 8 < n2
          · have d1 : decide ((8 : Int) < (n2 : Int)) = true := by rw [decide_eq_true_eq]; omega
            have d1' : decide (8 < n2) = true := by rw [decide_eq_true_eq]; exact h8
            have h25 : h2 < 5 := by
              rcases Nat.lt_or_ge h2 5 with h1 | h1
              · exact h1
              · have h2' := hU.h5
                have h3 := hU.ok
                rw [show 5 - h2 + 1 = 1 by omega, hn2] at h3
                omega
            have d2 : decide (z2 < 5) = true := by rw [decide_eq_true_eq]; omega
            have s2 : wrap64 (z2 + 1) = z2 + 1 := by simp only [wrap64]; omega
            have HP0 := pieces_any (fun b hb => HXl.out wr hU.rc.stp.chg.size b hb) hU.plx (by have := hU.wf.len; have := hU.wt; omega)
            rw [hn2] at HP0 ⊢
            have HP := Lib.hid HP0
            have H8 := Lib.hid h8
            clear hU hn2 hz2 h8 h25 HP0
            go_wp2_with (go_at_call 84; (with_reducible refine HP.out.mono ?_); rintro e w7 ⟨hb7, A7, c7, rfl, hp7⟩; (have N7 := Lib.hid (HU.out.up (by rw [Hn2.out]; exact H8.out) hb7 hp7).2); clear hb7 hp7)
            go_roundw
            case rel => exact ⟨h2 + 1, Tr.pieces l2, A7, c7, z2 + 1, rfl, by go_num, by rw [Hz2.out]; omega, N7.out⟩
            case measure => show (Tr.pieces l2).length < n2; rw [Tr.pieces_len, Hn2.out]; have := H8.out; omega
          · have d1 : decide ((8 : Int) < (n2 : Int)) = false := by rw [decide_eq_false_iff_not]; omega
            have d1' : decide (8 < n2) = false := by rw [decide_eq_false_iff_not]; exact h8
            have HNa := Lib.hid (fun u => narrowed_few D.val A2 n2 c2 (by omega) u)
            have hup := Tr.up_save D.S (f := 5 - h2) (h := h2) (l := l2) st (by rw [hn2]; omega)
            rw [← hU.eq] at hup
            have HSv0 := save_is D h2 (by have := hU.h5; omega) hU.rc.rep hU.plx hU.wf hU.wt
            rw [hn2, ← hz2] at HSv0
            rw [hn2]
            rw [← hz2] at hup
            unfold SvR at HSv0
            rcases hsv : Tr.save D.S h2 st l2 with ⟨s5, er5 | k5⟩
            · rw [hsv] at HSv0 hup
              dsimp only at HSv0 hup
              have HSv := Lib.hid HSv0
              have FE := Lib.hid hup
              clear hU hn2 hz2 h8 hup HSv0 hsv
              go_wp2_with (first
                | (go_at_call 85; (with_reducible refine (HNa.out _).mono ?_); rintro e w7 ⟨rfl, rfl⟩)
                | (go_at_call 86; (with_reducible refine HSv.out.mono ?_); rintro e w5 ⟨X5, hR5, hS5, hne, k, rfl⟩; (dsimp only [Tr.kidV]); (obtain ⟨W9, hW9⟩ : ∃ W, w5.alloc (.cells #[.int .i64 k.1, .int .i64 k.2.1, .int .i64 k.2.2] 58) = W := ⟨_, rfl⟩); (have C9 := (HU.out.rc.step hR5 hS5).below (hW9 ▸ below_alloc1 _ _)); (obtain ⟨j1, j2, j3, j4, b1, b2, b3, b4, ⟨a0, a1, a2, a3⟩, ⟨o0, o1, o2, o3⟩, ⟨x0, x1, x2, x3⟩, S8⟩ := C9.four (.int .i64 0) (.int .i64 0) (.int .i64 0) (.int .i64 0)); (have S8 := Lib.hid S8); (have Her := Lib.hid hne); (have zE : ((er5 : Int) != 0) = true := by simpa using hne); clear C9 hne hR5 hS5))
              rw [FE.out]
              refine bodyPost_ret (v := .tuple #[Tr.rootV (0, 0, 0) 0, .int .i64 er5]) ?_ rfl ⟨X5, S8.out.rep, S8.out.stp, Her.out, (0, 0, 0), 0, rfl⟩
              simp [results, Try.results66]
              go_simp
              simp [Tr.rootV]
            · rw [hsv] at HSv0 hup
              dsimp only at HSv0 hup
              have HSv := Lib.hid HSv0
              have FE := Lib.hid hup
              clear hU hn2 hz2 h8 hup HSv0 hsv
              go_wp2_with (first
                | (go_at_call 85; (with_reducible refine (HNa.out _).mono ?_); rintro e w7 ⟨rfl, rfl⟩)
                | (go_at_call 86; (with_reducible refine HSv.out.mono ?_); rintro e w5 ⟨X5, hR5, hS5, rfl⟩; (obtain ⟨k, hk⟩ : ∃ k, k = k5 := ⟨_, rfl⟩); (have Hk5 := Lib.hid hk); rw [← hk]; (dsimp only [Tr.kidV]); (obtain ⟨W9, hW9⟩ : ∃ W, w5.alloc (.cells #[.int .i64 k.1, .int .i64 k.2.1, .int .i64 k.2.2] 58) = W := ⟨_, rfl⟩); (obtain ⟨m0, m1, m2⟩ := three_ (show Blk W9 w5.heap.size 58 #[.int .i64 k.1, .int .i64 k.2.1, .int .i64 k.2.2] from by rw [← hW9]; exact Blk.new _ _ _)); (have C9 := (HU.out.rc.step hR5 hS5).below (hW9 ▸ below_alloc1 _ _)); (obtain ⟨j1, j2, j3, j4, b1, b2, b3, b4, ⟨a0, a1, a2, a3⟩, ⟨o0, o1, o2, o3⟩, ⟨x0, x1, x2, x3⟩, S8⟩ := C9.four (.int .i64 k.1) (.int .i64 k.2.1) (.int .i64 k.2.2) (.int .i64 z2)); (have S8 := Lib.hid S8); clear C9 hR5 hS5 hk))
              rw [FE.out]
              refine bodyPost_ret (v := .tuple #[Tr.rootV k z2, .int .i64 0]) ?_ rfl ⟨X5, S8.out.rep, S8.out.stp, by rw [Hk5.out]⟩
              simp [results, Try.results66]
              go_simp
              simp [Tr.rootV]
    | succ k =>
      have g0 : decide (0 < z') = true := by rw [decide_eq_true_eq]; omega
      by_cases hn1 : n = 1
      · have e1 : ((n : Int) == 1) = true := by rw [hn1]; rfl
        have zN : (0 : Int) < (n : Int) := by omega
        have s1 : z' - 1 = (k : Int) := by omega
        have s2 : wrap64 (z' - 1) = (k : Int) := by have := hI.h5; simp only [wrap64]; omega
        have s3 : wrap64 (k : Int) = (k : Int) := by have := hI.h5; simp only [wrap64]; omega
        obtain ⟨p, rfl⟩ : ∃ p, l' = [p] := by
          rw [hn1] at hn
          exact List.length_eq_one_iff.1 hn
        obtain ⟨cs, hU⟩ := hI.plx.uni
        obtain ⟨q, x, hq, hx⟩ := get_of_len hU.now.2.1 (i := 0) (Nat.succ_pos _)
        injection hq with hq
        subst hq
        have hpr : Fast X W1 fun u => PR u (k + 1) p x := fun u q => (hU u q).2.2 0 p x rfl hx
        obtain ⟨lb, lo', rfl, -, rg⟩ := hU.now.1.sl.range hx
        rw [Nat.zero_mul, Nat.add_zero] at rg
        clear hU hx hn hn1 hz'
        cases p with
        | inl b =>
          obtain rfl : x = ⟨b.f, Tr.z, b, false, none, 0, 0⟩ := hpr.now
          have r12 : W1.cell? ⟨lb, lo' + 12, none⟩ = some (.bool false) := rg 12 _ rfl
          have r6 : W1.cell? ⟨lb, lo' + 6, none⟩ = some (.int .i64 b.k.1) := rg 6 _ rfl
          have r7 : W1.cell? ⟨lb, lo' + 7, none⟩ = some (.int .i64 b.k.2.1) := rg 7 _ rfl
          have r8 : W1.cell? ⟨lb, lo' + 8, none⟩ = some (.int .i64 b.k.2.2) := rg 8 _ rfl
          have hR1 := hI.eq.trans (Tr.plant_old D.S (b := b) st)
          obtain ⟨j1, j2, j3, j4, b1, b2, b3, b4, ⟨a0, a1, a2, a3⟩, ⟨o0, o1, o2, o3⟩, ⟨x0, x1, x2, x3⟩, S8⟩ := HC.out.four (.int .i64 b.k.1) (.int .i64 b.k.2.1) (.int .i64 b.k.2.2) (.int .i64 (k : Int))
          have S8 := Lib.hid S8
          have HR1 := Lib.hid hR1
          clear rg hpr hI hR1
          go_wp2_with fail
          rw [HR1.out]
          refine bodyPost_ret (v := .tuple #[Tr.rootV b.k (k : Int), .int .i64 0]) ?_ rfl ⟨X, S8.out.rep, S8.out.stp, rfl⟩
          simp [results, Try.results66]
          go_simp
          simp [Tr.rootV]
        | inr m =>
          obtain ⟨xA, hxA⟩ : ∃ A, x.A = A := ⟨_, rfl⟩
          obtain ⟨xc, hxc⟩ : ∃ A, x.c = A := ⟨_, rfl⟩
          have ex := hpr.now.list.1
          rw [hxA, hxc] at ex
          have r12 : W1.cell? ⟨lb, lo' + 12, none⟩ = some (.bool true) := by rw [ex] at rg; exact rg 12 _ rfl
          have r13 : W1.cell? ⟨lb, lo' + 13, none⟩ = some (.slice xA m.length xc) := by rw [ex] at rg; exact rg 13 _ rfl
          have Nx := Lib.hid (show PlI D W1 X st R k m xA xc from hI.down (m := m) fun u q => by have := (hpr u q).list.2; rwa [hxA, hxc] at this)
          clear rg hpr hI ex hxA hxc
          go_wp2_with fail
          go_roundw
          case rel => exact ⟨k, m, xA, xc, (k : Int), rfl, by go_num, rfl, trivial, Nx.out⟩
          case measure => rw [Hz.out, s3]; show ((k : Int)).toNat < ((k + 1 : Nat) : Int).toNat; omega
      · have e1 : ((n : Int) == 1) = false := by rw [beq_eq_false_iff_ne]; omega
        by_cases hn0 : n = 0
        · have e0 : ((n : Int) == 0) = true := by rw [hn0]; rfl
          have HU := Lib.hid (hI.none_ (hn.trans hn0) HC.out)
          have Hn0 := Lib.hid hn0
          clear hI hn hz' hn0 hn1
          go_wp2_with fail
          go_loopw [1, 2] (fun v1 v2 wr => ∃ (h' : Nat) (l' : List (Tr.Pt h')) (A' : Option Addr) (c' : Nat) (z' : Int), v1 = .slice A' l'.length c' ∧ v2 = .int .i64 z' ∧ z' = (h' : Int) ∧ PlU D w X st R rb h' l' A' c' wr) (fun v1 _ _ => lenM v1)
          case atStart => exact ⟨0, [], A', c', 0, by rw [Hn0.out]; rfl, rfl, rfl, HU.out⟩
          case round =>
            clear HU HI Hz Hn Hn0 g0 e0 e1
            obtain ⟨h2, l2, A2, c2, z2, rfl, rfl, hz2, hU⟩ := hrel
            obtain ⟨n2, hn2⟩ : ∃ n, l2.length = n := ⟨_, rfl⟩
            have HU := Lib.hid hU
            have Hn2 := Lib.hid hn2
            have Hz2 := Lib.hid hz2
            by_cases h8 : 8 < n2
            · have d1 : decide ((8 : Int) < (n2 : Int)) = true := by rw [decide_eq_true_eq]; omega
              have d1' : decide (8 < n2) = true := by rw [decide_eq_true_eq]; exact h8
              have h25 : h2 < 5 := by
                rcases Nat.lt_or_ge h2 5 with h1 | h1
                · exact h1
                · have h2' := hU.h5
                  have h3 := hU.ok
                  rw [show 5 - h2 + 1 = 1 by omega, hn2] at h3
                  omega
              have d2 : decide (z2 < 5) = true := by rw [decide_eq_true_eq]; omega
              have s2 : wrap64 (z2 + 1) = z2 + 1 := by simp only [wrap64]; omega
              have HP0 := pieces_any (fun b hb => HXl.out wr hU.rc.stp.chg.size b hb) hU.plx (by have := hU.wf.len; have := hU.wt; omega)
              rw [hn2] at HP0 ⊢
              have HP := Lib.hid HP0
              have H8 := Lib.hid h8
              clear hU hn2 hz2 h8 h25 HP0
              go_wp2_with (go_at_call 84; (with_reducible refine HP.out.mono ?_); rintro e w7 ⟨hb7, A7, c7, rfl, hp7⟩; (have N7 := Lib.hid (HU.out.up (by rw [Hn2.out]; exact H8.out) hb7 hp7).2); clear hb7 hp7)
              go_roundw
              case rel => exact ⟨h2 + 1, Tr.pieces l2, A7, c7, z2 + 1, rfl, by go_num, by rw [Hz2.out]; omega, N7.out⟩
              case measure => show (Tr.pieces l2).length < n2; rw [Tr.pieces_len, Hn2.out]; have := H8.out; omega
            · have d1 : decide ((8 : Int) < (n2 : Int)) = false := by rw [decide_eq_false_iff_not]; omega
              have d1' : decide (8 < n2) = false := by rw [decide_eq_false_iff_not]; exact h8
              have HNa := Lib.hid (fun u => narrowed_few D.val A2 n2 c2 (by omega) u)
              have hup := Tr.up_save D.S (f := 5 - h2) (h := h2) (l := l2) st (by rw [hn2]; omega)
              rw [← hU.eq] at hup
              have HSv0 := save_is D h2 (by have := hU.h5; omega) hU.rc.rep hU.plx hU.wf hU.wt
              rw [hn2, ← hz2] at HSv0
              rw [hn2]
              rw [← hz2] at hup
              unfold SvR at HSv0
              rcases hsv : Tr.save D.S h2 st l2 with ⟨s5, er5 | k5⟩
              · rw [hsv] at HSv0 hup
                dsimp only at HSv0 hup
                have HSv := Lib.hid HSv0
                have FE := Lib.hid hup
                clear hU hn2 hz2 h8 hup HSv0 hsv
                go_wp2_with (first
                  | (go_at_call 85; (with_reducible refine (HNa.out _).mono ?_); rintro e w7 ⟨rfl, rfl⟩)
                  | (go_at_call 86; (with_reducible refine HSv.out.mono ?_); rintro e w5 ⟨X5, hR5, hS5, hne, k, rfl⟩; (dsimp only [Tr.kidV]); (obtain ⟨W9, hW9⟩ : ∃ W, w5.alloc (.cells #[.int .i64 k.1, .int .i64 k.2.1, .int .i64 k.2.2] 58) = W := ⟨_, rfl⟩); (have C9 := (HU.out.rc.step hR5 hS5).below (hW9 ▸ below_alloc1 _ _)); (obtain ⟨j1, j2, j3, j4, b1, b2, b3, b4, ⟨a0, a1, a2, a3⟩, ⟨o0, o1, o2, o3⟩, ⟨x0, x1, x2, x3⟩, S8⟩ := C9.four (.int .i64 0) (.int .i64 0) (.int .i64 0) (.int .i64 0)); (have S8 := Lib.hid S8); (have Her := Lib.hid hne); (have zE : ((er5 : Int) != 0) = true := by simpa using hne); clear C9 hne hR5 hS5))
                rw [FE.out]
                refine bodyPost_ret (v := .tuple #[Tr.rootV (0, 0, 0) 0, .int .i64 er5]) ?_ rfl ⟨X5, S8.out.rep, S8.out.stp, Her.out, (0, 0, 0), 0, rfl⟩
                simp [results, Try.results66]
                go_simp
                simp [Tr.rootV]
              · rw [hsv] at HSv0 hup
                dsimp only at HSv0 hup
                have HSv := Lib.hid HSv0
                have FE := Lib.hid hup
                clear hU hn2 hz2 h8 hup HSv0 hsv
                go_wp2_with (first
                  | (go_at_call 85; (with_reducible refine (HNa.out _).mono ?_); rintro e w7 ⟨rfl, rfl⟩)
                  | (go_at_call 86; (with_reducible refine HSv.out.mono ?_); rintro e w5 ⟨X5, hR5, hS5, rfl⟩; (obtain ⟨k, hk⟩ : ∃ k, k = k5 := ⟨_, rfl⟩); (have Hk5 := Lib.hid hk); rw [← hk]; (dsimp only [Tr.kidV]); (obtain ⟨W9, hW9⟩ : ∃ W, w5.alloc (.cells #[.int .i64 k.1, .int .i64 k.2.1, .int .i64 k.2.2] 58) = W := ⟨_, rfl⟩); (obtain ⟨m0, m1, m2⟩ := three_ (show Blk W9 w5.heap.size 58 #[.int .i64 k.1, .int .i64 k.2.1, .int .i64 k.2.2] from by rw [← hW9]; exact Blk.new _ _ _)); (have C9 := (HU.out.rc.step hR5 hS5).below (hW9 ▸ below_alloc1 _ _)); (obtain ⟨j1, j2, j3, j4, b1, b2, b3, b4, ⟨a0, a1, a2, a3⟩, ⟨o0, o1, o2, o3⟩, ⟨x0, x1, x2, x3⟩, S8⟩ := C9.four (.int .i64 k.1) (.int .i64 k.2.1) (.int .i64 k.2.2) (.int .i64 z2)); (have S8 := Lib.hid S8); clear C9 hR5 hS5 hk))
                rw [FE.out]
                refine bodyPost_ret (v := .tuple #[Tr.rootV k z2, .int .i64 0]) ?_ rfl ⟨X5, S8.out.rep, S8.out.stp, by rw [Hk5.out]⟩
                simp [results, Try.results66]
                go_simp
                simp [Tr.rootV]
        · have e0 : ((n : Int) == 0) = false := by rw [beq_eq_false_iff_ne]; omega
          have HU := Lib.hid (hI.many (by omega) HC.out)
          clear hI hn hz' hn0 hn1
          go_wp2_with fail
          go_loopw [1, 2] (fun v1 v2 wr => ∃ (h' : Nat) (l' : List (Tr.Pt h')) (A' : Option Addr) (c' : Nat) (z' : Int), v1 = .slice A' l'.length c' ∧ v2 = .int .i64 z' ∧ z' = (h' : Int) ∧ PlU D w X st R rb h' l' A' c' wr) (fun v1 _ _ => lenM v1)
          case atStart => exact ⟨k + 1, l', A', c', z', by rw [Hn.out], rfl, Hz.out, HU.out⟩
          case round =>
            clear HU HI Hz Hn g0 e0 e1
            obtain ⟨h2, l2, A2, c2, z2, rfl, rfl, hz2, hU⟩ := hrel
            obtain ⟨n2, hn2⟩ : ∃ n, l2.length = n := ⟨_, rfl⟩
            have HU := Lib.hid hU
            have Hn2 := Lib.hid hn2
            have Hz2 := Lib.hid hz2
            by_cases h8 : 8 < n2
            · have d1 : decide ((8 : Int) < (n2 : Int)) = true := by rw [decide_eq_true_eq]; omega
              have d1' : decide (8 < n2) = true := by rw [decide_eq_true_eq]; exact h8
              have h25 : h2 < 5 := by
                rcases Nat.lt_or_ge h2 5 with h1 | h1
                · exact h1
                · have h2' := hU.h5
                  have h3 := hU.ok
                  rw [show 5 - h2 + 1 = 1 by omega, hn2] at h3
                  omega
              have d2 : decide (z2 < 5) = true := by rw [decide_eq_true_eq]; omega
              have s2 : wrap64 (z2 + 1) = z2 + 1 := by simp only [wrap64]; omega
              have HP0 := pieces_any (fun b hb => HXl.out wr hU.rc.stp.chg.size b hb) hU.plx (by have := hU.wf.len; have := hU.wt; omega)
              rw [hn2] at HP0 ⊢
              have HP := Lib.hid HP0
              have H8 := Lib.hid h8
              clear hU hn2 hz2 h8 h25 HP0
              go_wp2_with (go_at_call 84; (with_reducible refine HP.out.mono ?_); rintro e w7 ⟨hb7, A7, c7, rfl, hp7⟩; (have N7 := Lib.hid (HU.out.up (by rw [Hn2.out]; exact H8.out) hb7 hp7).2); clear hb7 hp7)
              go_roundw
              case rel => exact ⟨h2 + 1, Tr.pieces l2, A7, c7, z2 + 1, rfl, by go_num, by rw [Hz2.out]; omega, N7.out⟩
              case measure => show (Tr.pieces l2).length < n2; rw [Tr.pieces_len, Hn2.out]; have := H8.out; omega
            · have d1 : decide ((8 : Int) < (n2 : Int)) = false := by rw [decide_eq_false_iff_not]; omega
              have d1' : decide (8 < n2) = false := by rw [decide_eq_false_iff_not]; exact h8
              have HNa := Lib.hid (fun u => narrowed_few D.val A2 n2 c2 (by omega) u)
              have hup := Tr.up_save D.S (f := 5 - h2) (h := h2) (l := l2) st (by rw [hn2]; omega)
              rw [← hU.eq] at hup
              have HSv0 := save_is D h2 (by have := hU.h5; omega) hU.rc.rep hU.plx hU.wf hU.wt
              rw [hn2, ← hz2] at HSv0
              rw [hn2]
              rw [← hz2] at hup
              unfold SvR at HSv0
              rcases hsv : Tr.save D.S h2 st l2 with ⟨s5, er5 | k5⟩
              · rw [hsv] at HSv0 hup
                dsimp only at HSv0 hup
                have HSv := Lib.hid HSv0
                have FE := Lib.hid hup
                clear hU hn2 hz2 h8 hup HSv0 hsv
                go_wp2_with (first
                  | (go_at_call 85; (with_reducible refine (HNa.out _).mono ?_); rintro e w7 ⟨rfl, rfl⟩)
                  | (go_at_call 86; (with_reducible refine HSv.out.mono ?_); rintro e w5 ⟨X5, hR5, hS5, hne, k, rfl⟩; (dsimp only [Tr.kidV]); (obtain ⟨W9, hW9⟩ : ∃ W, w5.alloc (.cells #[.int .i64 k.1, .int .i64 k.2.1, .int .i64 k.2.2] 58) = W := ⟨_, rfl⟩); (have C9 := (HU.out.rc.step hR5 hS5).below (hW9 ▸ below_alloc1 _ _)); (obtain ⟨j1, j2, j3, j4, b1, b2, b3, b4, ⟨a0, a1, a2, a3⟩, ⟨o0, o1, o2, o3⟩, ⟨x0, x1, x2, x3⟩, S8⟩ := C9.four (.int .i64 0) (.int .i64 0) (.int .i64 0) (.int .i64 0)); (have S8 := Lib.hid S8); (have Her := Lib.hid hne); (have zE : ((er5 : Int) != 0) = true := by simpa using hne); clear C9 hne hR5 hS5))
                rw [FE.out]
                refine bodyPost_ret (v := .tuple #[Tr.rootV (0, 0, 0) 0, .int .i64 er5]) ?_ rfl ⟨X5, S8.out.rep, S8.out.stp, Her.out, (0, 0, 0), 0, rfl⟩
                simp [results, Try.results66]
                go_simp
                simp [Tr.rootV]
              · rw [hsv] at HSv0 hup
                dsimp only at HSv0 hup
                have HSv := Lib.hid HSv0
                have FE := Lib.hid hup
                clear hU hn2 hz2 h8 hup HSv0 hsv
                go_wp2_with (first
                  | (go_at_call 85; (with_reducible refine (HNa.out _).mono ?_); rintro e w7 ⟨rfl, rfl⟩)
                  | (go_at_call 86; (with_reducible refine HSv.out.mono ?_); rintro e w5 ⟨X5, hR5, hS5, rfl⟩; (obtain ⟨k, hk⟩ : ∃ k, k = k5 := ⟨_, rfl⟩); (have Hk5 := Lib.hid hk); rw [← hk]; (dsimp only [Tr.kidV]); (obtain ⟨W9, hW9⟩ : ∃ W, w5.alloc (.cells #[.int .i64 k.1, .int .i64 k.2.1, .int .i64 k.2.2] 58) = W := ⟨_, rfl⟩); (obtain ⟨m0, m1, m2⟩ := three_ (show Blk W9 w5.heap.size 58 #[.int .i64 k.1, .int .i64 k.2.1, .int .i64 k.2.2] from by rw [← hW9]; exact Blk.new _ _ _)); (have C9 := (HU.out.rc.step hR5 hS5).below (hW9 ▸ below_alloc1 _ _)); (obtain ⟨j1, j2, j3, j4, b1, b2, b3, b4, ⟨a0, a1, a2, a3⟩, ⟨o0, o1, o2, o3⟩, ⟨x0, x1, x2, x3⟩, S8⟩ := C9.four (.int .i64 k.1) (.int .i64 k.2.1) (.int .i64 k.2.2) (.int .i64 z2)); (have S8 := Lib.hid S8); clear C9 hR5 hS5 hk))
                rw [FE.out]
                refine bodyPost_ret (v := .tuple #[Tr.rootV k z2, .int .i64 0]) ?_ rfl ⟨X5, S8.out.rep, S8.out.stp, by rw [Hk5.out]⟩
                simp [results, Try.results66]
                go_simp
                simp [Tr.rootV]
end
end Go.Proofs.Ytlcchefiicalpaa
