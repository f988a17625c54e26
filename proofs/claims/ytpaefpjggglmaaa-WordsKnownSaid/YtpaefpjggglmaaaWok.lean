/- What words.Pack is held to (WPackOk), met by a table and words of a code whose lengths are depth's. -/
import Derived.Test.YtpaefpjggglmaaaWcs
import Derived.Test.YtpaefpjggglmaaaWc
import Derived.Test.YtpaefpjggglmaaaDepc
namespace Go.Proofs.Ytpaefpjggglmaaa
open Go.RowKit
namespace Wd

/-- How often each byte comes up. -/
def cntB (b : List Nat) : List Int := (List.range 256).map fun x => ((b.count x : Nat) : Int)
theorem cntB_len (b : List Nat) : (cntB b).length = 256 := by simp [cntB]
theorem cntB_at (b : List Nat) {x : Nat} (h : x < 256) : (cntB b).getD x 0 = ((b.count x : Nat) : Int) := rng_at _ h
theorem cntB_good {b : List Nat} (h : b.length ≤ 4096) : (cntB b).any cbad = false := by
  rw [List.any_eq_false]
  intro x hx
  obtain ⟨i, _, rfl⟩ := List.mem_map.1 hx
  have := List.count_le_length (a := i) (l := b)
  unfold cbad
  rw [Bool.not_eq_true, Bool.or_eq_false_iff, decide_eq_false_iff_not, decide_eq_false_iff_not]
  exact ⟨by omega, by omega⟩
theorem used_both {L c : List Int} (hc : c.length = 256) (h : ∀ i, i < 256 → (0 < L.getD i 0 ↔ 0 < c.getD i 0)) : ∀ k, k ≤ 256 → usedN L k = (c.take k).countP fun x => decide (0 < x)
  | 0, _ => rfl
  | k + 1, hk => by
    have hg : c.getD k 0 = c[k]'(by omega) := by rw [List.getD_eq_getElem?_getD, List.getElem?_eq_getElem (by omega)]; rfl
    have hp := h k (by omega)
    rw [hg] at hp
    rw [usedN, used_both hc h k (by omega), List.take_add_one, List.getElem?_eq_getElem (by omega), List.countP_append]
    by_cases h0 : 0 < L.getD k 0
    · rw [if_pos h0]; simp [hp.1 h0]
    · rw [if_neg h0]; simp [mt hp.2 h0]
/-- The lengths that depth gives are those of a code that can be read. -/
theorem lens_code {F : List Int → List Int × Bool} (hF : LensOk F) {c : List Int} (hc : c.length = 256) (hb : c.any cbad = false) :
    (F c).1.length = 256 ∧ (∀ x ∈ (F c).1, 0 ≤ x ∧ x ≤ 11) ∧ badT (F c).1 = false ∧ ∀ i, i < 256 → 0 < c.getD i 0 → Has (F c).1 i := by
  have hl := hF.len c hc
  have hu : usedN (F c).1 256 = used c := by
    rw [used_both hc (hF.pos c hc hb) 256 (Nat.le_refl _), List.take_of_length_le (by omega)]; rfl
  refine ⟨hl, fun x hx => ?_, ?_, fun i hi h0 => ?_⟩
  · obtain ⟨i, hi, rfl⟩ := List.mem_iff_getElem.1 hx
    rw [hl] at hi
    have := hF.rng c hc hb i hi
    rw [List.getD_eq_getElem?_getD, List.getElem?_eq_getElem (by rw [hl]; exact hi)] at this
    exact this
  · unfold badT
    rcases Nat.lt_trichotomy (used c) 1 with h | h | h
    · have h0 : used c = 0 := by omega
      rw [h0] at hu
      have hs := (used_none (l := (F c).1) (k := 256) (by omega) hu).1
      rw [ks_all hl] at hs
      rw [hs, hu]; rfl
    · have h1 := hF.one c hc hb h
      rw [h] at hu
      have hpos : 0 < used c := by omega
      obtain ⟨x, hx, hxp⟩ := List.countP_pos_iff.1 hpos
      obtain ⟨i, hi, rfl⟩ := List.mem_iff_getElem.1 hx
      rw [decide_eq_true_eq] at hxp
      have hi' : i < 256 := by omega
      have hp : 0 < (F c).1.getD i 0 := (hF.pos c hc hb i hi').2 (by rw [List.getD_eq_getElem?_getD, List.getElem?_eq_getElem hi]; exact hxp)
      obtain ⟨e1, e2⟩ := used_one hp (k := 256) (by omega) hi' hu
      rw [ks_all hl, h1] at e1
      have hone : (F c).1.getD i 0 = 1 := by
        unfold kterm at e1
        rw [if_pos hp] at e1
        by_cases h2 : (F c).1.getD i 0 = 1
        · exact h2
        · have : 11 - ((F c).1.getD i 0).toNat ≤ 9 := by omega
          have := Nat.pow_le_pow_right (n := 2) (by decide) this
          omega
      rw [hone] at e2
      rw [h1, hu, e2]; rfl
    · rw [hF.full c hc hb h]; rfl
  · have hp := (hF.pos c hc hb i hi).2 h0
    have hr := hF.rng c hc hb i hi
    exact ⟨hi, by omega, hr.2⟩
theorem words_most {L : List Int} (h : ∀ x ∈ L, 0 ≤ x ∧ x ≤ 11) : ∀ ss : List Nat, (ss.flatMap (wordOf L)).length ≤ 11 * ss.length
  | [] => Nat.le_refl _
  | i :: ss => by
    rw [List.flatMap_cons, List.length_append, List.length_cons]
    have ih := words_most h ss
    have : (wordOf L i).length ≤ 11 := by
      unfold wordOf
      rw [wb_len]
      by_cases hi : i < L.length
      · have := h (L.getD i 0) (by rw [List.getD_eq_getElem?_getD, List.getElem?_eq_getElem hi]; exact List.getElem_mem _)
        omega
      · rw [List.getD_eq_getElem?_getD, List.getElem?_eq_none (by omega)]; decide
    omega
end Wd
/-- A Pack that writes a table and words, and nothing for too many bytes. -/
theorem wpack_ok {P : List Nat → List Nat} (hn : ∀ l : List Nat, 4096 < l.length → P l = [])
    (hp : ∀ l : List Nat, (∀ x ∈ l, x < 256) → l.length ≤ 4096 → ∃ (L : List Int) (rs : List (Nat × Nat)), Wd.Code L rs ∧ (∀ x ∈ L, 0 ≤ x) ∧ (∀ x ∈ l, Wd.Has L x) ∧ P l = Wd.runsB rs ++ Wd.packB (l.flatMap (Wd.wordOf L))) : WPackOk P := by
  refine ⟨fun l hl h4 => ?_, fun l hl h4 => ?_, hn⟩
  · obtain ⟨L, rs, hc, _, hh, e⟩ := hp l hl h4
    rw [e]; exact hc.back hh h4
  · obtain ⟨L, rs, hc, h0, hh, e⟩ := hp l hl h4
    have a1 := Wd.runs_few hc.fits
    rw [hc.runs, hc.len] at a1
    have a2 := Wd.packB_len (Wd.words_two L l)
    have a3 := Wd.words_most (L := L) (fun x hx => ⟨h0 x hx, hc.most x hx⟩) l
    rw [e, List.length_append]
    unfold Wd.runsB
    rw [List.length_map]
    omega
/-- With depth's lengths of the bytes' counts, and runs that are those lengths. -/
theorem wpack_lens {F : List Int → List Int × Bool} (hF : LensOk F) {R : List Int → List (Nat × Nat)}
    (hR : ∀ L : List Int, L.length = 256 → (∀ x ∈ L, 0 ≤ x ∧ x ≤ 11) → Wd.runsL (R L) = L ∧ ∀ r ∈ R L, r.1 ≤ 11 ∧ 1 ≤ r.2 ∧ r.2 ≤ 16) :
    WPackOk fun l => if 4096 < l.length then [] else Wd.runsB (R (F (Wd.cntB l)).1) ++ Wd.packB (l.flatMap (Wd.wordOf (F (Wd.cntB l)).1)) := by
  refine wpack_ok (fun l h => if_pos h) fun l hl h4 => ?_
  obtain ⟨k1, k2, k3, k4⟩ := Wd.lens_code hF (Wd.cntB_len l) (Wd.cntB_good h4)
  obtain ⟨r1, r2⟩ := hR _ k1 k2
  refine ⟨_, _, ⟨k1, r1, r2, k3⟩, fun x hx => (k2 x hx).1, fun x hx => k4 x (hl x hx) ?_, if_neg (by omega)⟩
  rw [Wd.cntB_at l (hl x hx)]
  have := List.count_pos_iff.2 hx
  omega
namespace Wd
/-- The runs of a list, as long as they may be: the value of the run that is open, how long it is. -/
def grun : Nat → Nat → List Int → List (Nat × Nat)
  | v, n, [] => [(v, n)]
  | v, n, x :: r => if x.toNat = v ∧ n < 16 then grun v (n + 1) r else (v, n) :: grun x.toNat 1 r
def runsOf : List Int → List (Nat × Nat)
  | [] => []
  | x :: r => grun x.toNat 1 r
theorem grun_are : ∀ (l : List Int) (v n : Nat), (∀ x ∈ l, 0 ≤ x) → runsL (grun v n l) = List.replicate n ((v : Nat) : Int) ++ l
  | [], v, n, _ => by simp [grun, runsL]
  | x :: r, v, n, h => by
    have hx := h x (List.mem_cons_self ..)
    have hr : ∀ y ∈ r, 0 ≤ y := fun y hy => h y (List.mem_cons_of_mem _ hy)
    have hv : ((x.toNat : Nat) : Int) = x := by omega
    rw [grun]
    split
    · rename_i hc
      rw [grun_are r v (n + 1) hr, List.replicate_succ', List.append_assoc, ← hc.1, hv]; rfl
    · have := grun_are r x.toNat 1 hr
      unfold runsL at this ⊢
      rw [List.flatMap_cons, this, hv]; rfl
theorem grun_fits : ∀ (l : List Int) (v n : Nat), (∀ x ∈ l, 0 ≤ x ∧ x ≤ 11) → v ≤ 11 → 1 ≤ n → n ≤ 16 → ∀ r ∈ grun v n l, r.1 ≤ 11 ∧ 1 ≤ r.2 ∧ r.2 ≤ 16
  | [], v, n, _, hv, h1, h2 => fun r hr => by
    rw [grun, List.mem_singleton] at hr; subst hr; exact ⟨hv, h1, h2⟩
  | x :: t, v, n, h, hv, h1, h2 => fun r hr => by
    have hx := h x (List.mem_cons_self ..)
    have ht : ∀ y ∈ t, 0 ≤ y ∧ y ≤ 11 := fun y hy => h y (List.mem_cons_of_mem _ hy)
    rw [grun] at hr
    split at hr
    · rename_i hc
      exact grun_fits t v (n + 1) ht hv (by omega) (by omega) r hr
    · rcases List.mem_cons.1 hr with e | hr
      · subst e; exact ⟨hv, h1, h2⟩
      · exact grun_fits t x.toNat 1 ht (by omega) (Nat.le_refl _) (by omega) r hr
theorem runs_of {L : List Int} (h : ∀ x ∈ L, 0 ≤ x ∧ x ≤ 11) : runsL (runsOf L) = L ∧ ∀ r ∈ runsOf L, r.1 ≤ 11 ∧ 1 ≤ r.2 ∧ r.2 ≤ 16 := by
  cases L with
  | nil => exact ⟨rfl, fun r hr => by cases hr⟩
  | cons x t =>
    have hx := h x (List.mem_cons_self ..)
    have ht : ∀ y ∈ t, 0 ≤ y ∧ y ≤ 11 := fun y hy => h y (List.mem_cons_of_mem _ hy)
    refine ⟨?_, grun_fits t _ _ ht (by omega) (Nat.le_refl _) (by decide)⟩
    have hv : ((x.toNat : Nat) : Int) = x := by omega
    unfold runsOf
    rw [grun_are t _ _ fun y hy => (ht y hy).1, hv]; rfl
/-- What Pack says: nothing for too many; a table of depth's lengths in the longest runs, and the words. -/
def thePack (F : List Int → List Int × Bool) (l : List Nat) : List Nat := if 4096 < l.length then [] else runsB (runsOf (F (cntB l)).1) ++ packB (l.flatMap (wordOf (F (cntB l)).1))
end Wd
theorem wpack_the {F : List Int → List Int × Bool} (hF : LensOk F) : WPackOk (Wd.thePack F) := wpack_lens hF fun _ _ h => Wd.runs_of h
end Go.Proofs.Ytpaefpjggglmaaa
