/- Where the program's map and counts lie; slices.BinarySearchFunc, find. -/
import Derived.Test.YtfiafgmlbejboaaSkc
import Derived.Test.YtfiafgmlbejboaaRall
import Derived.Test.YtfiafgmlbejboaaShc
namespace Go.Proofs.Ytfiafgmlbejboaa
open Go.RowKit

theorem Blk.typ {w : World} {b : Nat} {t t' : TypeId} {cs cs' : Array Value} (h : Blk w b t cs) (h' : Blk w b t' cs') : t = t' := by
  rw [Blk] at h h'
  rw [h] at h'
  injection h' with h'
  injection h'
theorem own_typ {w : World} {B size n b : Nat} {e t : TypeId} {v : Value} {xs : List Value} {cs : Array Value} (h : w.ownsRow B e size v n xs) (hb : v.ownBlock = some b) (h' : Blk w b t cs) : t = e := by
  rcases h.2 with ⟨rfl, -⟩ | ⟨g, c, cur, rfl, -, hg, -⟩
  · cases hb
  · injection hb with hb
    have hb : g = b := hb
    subst hb
    exact h'.typ (show Blk w g e cur from hg)
/-- The program's map at block g over the free blocks F (in the blocks Xr), and its counts at block gs: the row of runs l, which v holds. -/
structure RepSV (w : World) (g gs : Nat) (X Xr : Nat → Prop) (F : List Bool) (l : List Sk.K) (v : Value) : Prop where
  blk : Blk w gs 72 #[.pointer (some ⟨g, 0, none⟩), v]
  row : OwnK w 0 v l
  map : RepP w g Xr F
  asc : Sk.Asc l
  at_ : ∀ b, X b ↔ (Xr b ∨ b = gs ∨ v.ownBlock = some b)
def RepB (w : World) (g gs : Nat) (X : Nat → Prop) (F : List Bool) (now was : List Sh.U) : Prop := ∃ Xr l v, RepSV w g gs X Xr F l v ∧ now = Sk.ofN l ∧ was = Sk.ofW l
theorem RepP.typ {w : World} {g b : Nat} {X : Nat → Prop} {F : List Bool} (h : RepP w g X F) (hb : X b) {t : TypeId} {cs : Array Value} (h' : Blk w b t cs) : t = 61 ∨ t = 39 := by
  obtain ⟨v, hV⟩ := h
  rcases (hV.at_ b).1 hb with rfl | hb
  · exact .inl (h'.typ hV.blk)
  · exact .inr (own_typ hV.row hb h')
section
variable {w w' : World} {g gs : Nat} {X Xr : Nat → Prop} {F : List Bool} {l : List Sk.K} {v : Value}
theorem RepSV.typ (h : RepSV w g gs X Xr F l v) {b : Nat} (hb : X b) {t : TypeId} {cs : Array Value} (h' : Blk w b t cs) : t ≠ 80 ∧ t ≠ 50 := by
  rcases (h.at_ b).1 hb with hb | rfl | hb
  · rcases h.map.typ hb h' with rfl | rfl <;> exact ⟨by decide, by decide⟩
  · rw [h'.typ h.blk]; exact ⟨by decide, by decide⟩
  · rw [own_typ h.row hb h']; exact ⟨by decide, by decide⟩
theorem RepSV.keep (h : RepSV w g gs X Xr F l v) (hk : ∀ b, X b → w'.heap[b]? = w.heap[b]?) : RepSV w' g gs X Xr F l v :=
  ⟨h.blk.keep (hk gs ((h.at_ gs).2 (.inr (.inl rfl)))), own_keep h.row fun b hb _ => hk b ((h.at_ b).2 (.inr (.inr hb))), runs_are.keep h.map fun b hb => hk b ((h.at_ b).2 (.inl hb)), h.asc, h.at_⟩
theorem RepSV.lt (h : RepSV w g gs X Xr F l v) {b : Nat} (hb : X b) : b < w.heap.size := by
  rcases (h.at_ b).1 hb with hb | rfl | hb
  · exact runs_are.lt h.map b hb
  · exact h.blk.lt
  · exact (h.row.lt b hb).2
theorem RepSV.below (h : RepSV w g gs X Xr F l v) (hb : Below w.heap.size w w') : RepSV w' g gs X Xr F l v := h.keep fun b hX => hb.block b (h.lt hX)
/-- The row lies neither in the map nor in the block of the counts. -/
theorem RepSV.row_ne (h : RepSV w g gs X Xr F l v) {b : Nat} (hb : v.ownBlock = some b) : b ≠ gs ∧ ¬ Xr b := by
  refine ⟨?_, fun hX => ?_⟩
  · rintro rfl
    exact absurd (own_typ h.row hb h.blk) (by decide)
  · obtain ⟨cur, hcur⟩ : ∃ cur, Blk w b 78 cur := by
      rcases h.row.2 with ⟨h', _⟩ | ⟨g2, cap, cur, h', _, hg2, _⟩
      · subst h'; cases hb
      · subst h'; injection hb with hb; subst hb; exact ⟨cur, hg2⟩
    rcases h.map.typ hX hcur with h | h <;> exact absurd h (by decide)
theorem RepSV.gs_ne (h : RepSV w g gs X Xr F l v) : ¬ Xr gs := fun hX => by
  rcases h.map.typ hX h.blk with h | h <;> exact absurd h (by decide)

set_option maxRecDepth 8000 in
set_option maxHeartbeats 8000000 in
/-- slices.BinarySearchFunc at the program's runs. -/
theorem bsf_any (h : OwnK w 0 v l) (few : l.length ≤ 100000) (hs : Sk.Asc l) (t : Int) :
    Calls Try.prog 71 #[v, .int .i64 t, .func (.func 72) #[] #[]] w fun e w' => ∃ (i : Nat) (is : Bool), e = .returned (.tuple #[.int .i64 (i : Int), .bool is]) ∧ Sk.Found l t i is ∧ Below w.heap.size w w' := by
  obtain ⟨A, c, rfl, hc, hA⟩ := ownK_slice h
  obtain ⟨n, hn⟩ : ∃ n, n = l.length := ⟨_, rfl⟩
  have eg : ∀ a (W : World), (callFunc 72 a).run Try.prog W = .ok (.enter 72 a) W := fun a W => by kernel_rfl
  have H := Lib.hid (fun (W : World) (hb : Below w.heap.size w W) => (own_keep h fun b _ hlt => hb.block b hlt : OwnK W 0 (.slice A l.length c) l))
  have HS := Lib.hid hs
  have Hn := Lib.hid hn
  have hn5 : n ≤ 100000 := by rw [hn]; exact few
  rw [← hn]
  clear h hs few hn hA hc
  go_enter Try.func71, Try.ntmps71
  go_wp2_with fail
  go_loopw [9, 10] (fun s9 s10 wr => ∃ lo hi : Nat, s9 = .int .i64 (lo : Int) ∧ s10 = .int .i64 (hi : Int) ∧ lo ≤ hi ∧ hi ≤ n ∧ Below w.heap.size w wr ∧ (∀ j, j < lo → ((Sk.at_ l j).1 : Int) < t) ∧ ∀ j, hi ≤ j → j < n → t ≤ ((Sk.at_ l j).1 : Int)) (fun s9 s10 _ => (intOf s10).toNat - (intOf s9).toNat)
  case atStart => exact ⟨0, n, rfl, rfl, Nat.zero_le _, Nat.le_refl _, Below.refl _ _, fun j hj => absurd hj (Nat.not_lt_zero _), fun j h1 h2 => absurd h2 (Nat.not_lt.2 h1)⟩
  case round =>
    obtain ⟨lo, hi, rfl, rfl, hlh, hin, hb, i1, i2⟩ := hrel
    have I1 := Lib.hid i1
    have I2 := Lib.hid i2
    have HB := Lib.hid hb
    clear i1 i2 hb
    by_cases hlt : lo < hi
    · obtain ⟨mid, hm⟩ : ∃ mid : Nat, mid = (lo + hi) / 2 := ⟨_, rfl⟩
      have s1 : ((lo : Int) + (hi : Int)) / 2 = (mid : Int) := by omega
      have hmid : lo ≤ mid ∧ mid < hi := by omega
      have hmn : (mid : Int) < (n : Int) := by omega
      have d1 : decide ((lo : Int) < (hi : Int)) = true := by rw [decide_eq_true_eq]; omega
      have d1' : decide (lo < hi) = true := by rw [decide_eq_true_eq]; omega
      obtain ⟨gl, c', e, -, -, hcell⟩ := ownK_at (H.out wr HB.out) (by rw [← Hn.out]; omega)
      injection e with e e2 e3
      subst e
      subst e3
      clear e2
      obtain ⟨c1, c2, c3, c4⟩ := hcell mid (by rw [← Hn.out]; omega)
      clear hcell
      have XE := Lib.hid (rfl : Sk.at_ l mid = Sk.at_ l mid)
      obtain ⟨x, hx⟩ : ∃ x, x = (Sk.at_ l mid).1 := ⟨_, rfl⟩
      have Hx := Lib.hid hx
      rw [← hx] at c1
      clear hx XE
      generalize (Sk.at_ l mid).2.1 = x2 at *
      generalize (Sk.at_ l mid).2.2.1 = x3 at *
      generalize (Sk.at_ l mid).2.2.2 = x4 at *
      have N1 := Lib.hid (find1_any x x2 x3 x4 t wr)
      by_cases hxt : (x : Int) < t
      · rw [show cmpI (x : Int) t = -1 by unfold cmpI; rw [if_pos hxt]] at N1
        have Nx := Lib.hid (show ∀ j, j < mid + 1 → ((Sk.at_ l j).1 : Int) < t from fun j hj => by
          rcases Nat.lt_or_ge j mid with h | h
          · rcases Nat.lt_or_ge j lo with h' | h'
            · exact I1.out j h'
            · have := HS.out.lt h (by rw [← Hn.out]; omega); rw [← Hx.out] at this; omega
          · rw [show j = mid by omega, ← Hx.out]; exact hxt)
        clear hxt hm
        go_wp2_with (go_at_fn 72; refine N1.out.mono ?_; rintro e w2 ⟨rfl, h2⟩)
        have H2 := Lib.hid (HB.out.trans (h2.mono HB.out.size))
        clear h2
        go_wp2_with fail
        go_roundw
        case rel => exact ⟨mid + 1, hi, by go_num, rfl, by omega, by omega, H2.out, Nx.out, I2.out⟩
        case measure => simp [intOf]; omega
      · obtain ⟨cv, hcv⟩ : ∃ cv, cv = cmpI (x : Int) t := ⟨_, rfl⟩
        have q1 : decide (cv < 0) = false := by rw [decide_eq_false_iff_not, hcv]; unfold cmpI; rw [if_neg hxt]; split <;> omega
        rw [← hcv] at N1
        have Nx := Lib.hid (show ∀ j, mid ≤ j → j < n → t ≤ ((Sk.at_ l j).1 : Int) from fun j h1 h2 => by
          rcases Nat.eq_or_lt_of_le h1 with h | h
          · rw [← h, ← Hx.out]; omega
          · have := HS.out.lt h (by rw [← Hn.out]; omega); rw [← Hx.out] at this; omega)
        clear hxt hm hcv
        go_wp2_with (go_at_fn 72; refine N1.out.mono ?_; rintro e w2 ⟨rfl, h2⟩)
        have H2 := Lib.hid (HB.out.trans (h2.mono HB.out.size))
        clear h2
        go_wp2_with fail
        go_roundw
        case rel => exact ⟨lo, mid, rfl, rfl, by omega, by omega, H2.out, I1.out, Nx.out⟩
        case measure => simp [intOf]; omega
    · obtain rfl : lo = hi := by omega
      have d1 : decide ((lo : Int) < (lo : Int)) = false := by simp
      have d1' : decide (lo < lo) = false := by simp
      by_cases hn0 : lo < n
      · have d2 : decide ((lo : Int) < (n : Int)) = true := by rw [decide_eq_true_eq]; omega
        have d2' : decide (lo < n) = true := by rw [decide_eq_true_eq]; omega
        obtain ⟨gl, c', e, -, -, hcell⟩ := ownK_at (H.out wr HB.out) (by rw [← Hn.out]; omega)
        injection e with e e2 e3
        subst e
        subst e3
        clear e2
        obtain ⟨c1, c2, c3, c4⟩ := hcell lo (by rw [← Hn.out]; omega)
        clear hcell
        obtain ⟨x, hx⟩ : ∃ x, x = (Sk.at_ l lo).1 := ⟨_, rfl⟩
        have Hx := Lib.hid hx
        rw [← hx] at c1
        clear hx
        generalize (Sk.at_ l lo).2.1 = x2 at *
        generalize (Sk.at_ l lo).2.2.1 = x3 at *
        generalize (Sk.at_ l lo).2.2.2 = x4 at *
        have N1 := Lib.hid (find1_any x x2 x3 x4 t wr)
        obtain ⟨cv, hcv⟩ : ∃ cv, cv = cmpI (x : Int) t := ⟨_, rfl⟩
        rw [← hcv] at N1
        obtain ⟨is, his⟩ : ∃ is, is = decide ((x : Int) = t) := ⟨_, rfl⟩
        have q1 : (cv == 0) = is := by
          rw [hcv, his]
          have := I2.out lo (Nat.le_refl _) hn0
          rw [← Hx.out] at this
          unfold cmpI
          rw [if_neg (by omega)]
          by_cases h : t < (x : Int)
          · rw [if_pos h, decide_eq_false (by omega)]; rfl
          · rw [if_neg h, decide_eq_true (by omega)]; rfl
        have Fin := Lib.hid (show Sk.Found l t lo is from ⟨by rw [← Hn.out]; exact hin, I1.out, fun j h1 h2 => I2.out j h1 (by rw [Hn.out]; exact h2), by rw [his, decide_eq_true (show lo < l.length by rw [← Hn.out]; exact hn0), Bool.true_and, Hx.out]⟩)
        clear hcv his
        go_wp2_with (go_at_fn 72; refine N1.out.mono ?_; rintro e w2 ⟨rfl, h2⟩)
        have H2 := Lib.hid (HB.out.trans (h2.mono HB.out.size))
        clear h2
        go_wp2_with fail
        go_returns
        exact ⟨lo, is, rfl, Fin.out, H2.out⟩
      · have d2 : decide ((lo : Int) < (n : Int)) = false := by rw [decide_eq_false_iff_not]; omega
        have d2' : decide (lo < n) = false := by rw [decide_eq_false_iff_not]; omega
        have Fin := Lib.hid (show Sk.Found l t lo false from ⟨by rw [← Hn.out]; exact hin, I1.out, fun j h1 h2 => I2.out j h1 (by rw [Hn.out]; exact h2), by rw [decide_eq_false (show ¬ lo < l.length by rw [← Hn.out]; exact hn0), Bool.false_and]⟩)
        go_wp2_with fail
        go_returns
        exact ⟨lo, false, rfl, Fin.out, HB.out⟩

set_option maxHeartbeats 2000000 in
theorem find_any (h : RepSV w g gs X Xr F l v) (few : l.length ≤ 100000) (a : Int) :
    Calls Try.prog 54 #[.pointer (some ⟨gs, 0, none⟩), .int .i64 a] w fun e w' => ∃ (i : Nat) (is : Bool), e = .returned (.tuple #[.int .i64 (i : Int), .bool is]) ∧ Sk.Found l a i is ∧ Below w.heap.size w w' := by
  have c1 : w.cell? ⟨gs, 1, none⟩ = some v := h.blk.cell 1
  have N1 := Lib.hid (bsf_any h.row few h.asc a)
  obtain ⟨A, c, rfl, -, -⟩ := ownK_slice h.row
  clear h
  go_enter Try.func54, Try.ntmps54
  go_wp2_with fail
  refine N1.out.mono ?_
  rintro e w1 ⟨i, is, rfl, hf, hb⟩
  have HF := Lib.hid hf
  have HB := Lib.hid hb
  clear hf hb N1
  go_wp2_with fail
  go_returns
  exact ⟨i, is, rfl, HF.out, HB.out⟩
end
end Go.Proofs.Ytfiafgmlbejboaa
