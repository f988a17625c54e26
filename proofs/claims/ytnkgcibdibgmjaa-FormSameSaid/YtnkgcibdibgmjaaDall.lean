/- The program's Lengths as a plain function, and what holds of it. The program's Lengths. The program's depth: all that the statements ask of it (kraft_is, cost_is, lens_is, lens_ok). -/
import Derived.Test.YtnkgcibdibgmjaaDra
import Derived.Test.YtnkgcibdibgmjaaFlat
import Derived.Test.YtnkgcibdibgmjaaDjoin
import Derived.Test.YtnkgcibdibgmjaaDdep
import Derived.Test.YtnkgcibdibgmjaaDfla
namespace Go.Proofs.Ytnkgcibdibgmjaa
open Go.RowKit

/-- The byte values that occur, the rarest first. -/
def risV (cl : List Int) : List (Fin 256) := (occ cl).mergeSort fun x y => totB (cnt cl) x y || decide (x = y)
theorem ris_perm (cl : List Int) : (risV cl).Perm (occ cl) := List.mergeSort_perm _ _
theorem occ_nodup (cl : List Int) : (occ cl).Nodup := (occ_up cl).imp fun h e => by rw [e] at h; exact Nat.lt_irrefl _ h
theorem ris_pw (cl : List Int) : (risV cl).Pairwise (Tot (cnt cl)) := by
  have h := List.pairwise_mergeSort (le := fun x y => totB (cnt cl) x y || decide (x = y)) (fun a b c h1 h2 => by
      simp only [Bool.or_eq_true, decide_eq_true_eq, totB_iff] at *
      rcases h1 with h1 | rfl
      · rcases h2 with h2 | rfl
        · exact .inl (h1.trans h2)
        · exact .inl h1
      · exact h2) (fun a b => by
      simp only [Bool.or_eq_true, decide_eq_true_eq, totB_iff]
      by_cases e : a = b
      · exact .inl (.inr e)
      · have : a.val ≠ b.val := fun h => e (Fin.ext h)
        unfold Tot; omega) (occ cl)
  have hn : (risV cl).Nodup := (ris_perm cl).nodup_iff.2 (occ_nodup cl)
  refine (h.and hn).imp fun {x y} hh => ?_
  have h1 := hh.1
  simp only [Bool.or_eq_true, decide_eq_true_eq, totB_iff] at h1
  exact h1.resolve_right hh.2
theorem ris_only {cl : List Int} {Z : List (Fin 256)} (h1 : Z.Perm (occ cl)) (h2 : Z.Pairwise (Tot (cnt cl))) : Z = risV cl :=
  List.Perm.eq_of_pairwise (fun a b _ _ h3 h4 => by unfold Tot at h3 h4; omega) h2 (ris_pw cl) (h1.trans (ris_perm cl).symm)

def placeK (Z : List (Fin 256)) (l : List Int) : Nat → List Int
  | 0 => List.replicate 256 0
  | k + 1 => (placeK Z l k).set (Z.getD k 0).val (l.getD k 0)
def lensV (cl : List Int) : List Int := flatV (depthsV ((risV cl).map (cnt cl)))
noncomputable def theF (cl : List Int) : List Int × Bool := if cl.any cbad then (List.replicate 256 0, false) else (placeK (risV cl) (lensV cl) (risV cl).length, true)
theorem place_len (Z : List (Fin 256)) (l : List Int) : ∀ k, (placeK Z l k).length = 256
  | 0 => List.length_replicate
  | k + 1 => by rw [placeK, List.length_set, place_len Z l k]
section
variable {Z : List (Fin 256)} {l : List Int}
theorem place_not : ∀ k, k ≤ Z.length → ∀ x : Fin 256, (∀ i, i < k → Z.getD i 0 ≠ x) → (placeK Z l k).getD x.val 0 = 0
  | 0, _, x, _ => by
    rw [placeK, List.getD_eq_getElem?_getD, List.getElem?_replicate]; split <;> rfl
  | k + 1, hk, x, h => by
    rw [placeK, getD_set, if_neg (fun e => h k (by omega) (Fin.ext e.1)), place_not k (by omega) x (fun i hi => h i (by omega))]
theorem place_at (hn : Z.Nodup) : ∀ k, k ≤ Z.length → ∀ i, i < k → (placeK Z l k).getD (Z.getD i 0).val 0 = l.getD i 0
  | 0, _, _, h => absurd h (Nat.not_lt_zero _)
  | k + 1, hk, i, hi => by
    rw [placeK, getD_set, place_len]
    by_cases e : i = k
    · subst e; rw [if_pos ⟨rfl, (Z.getD i 0).isLt⟩]
    · rw [if_neg, place_at hn k (by omega) i (by omega)]
      rintro ⟨h1, -⟩
      have h2 : Z.getD k 0 = Z.getD i 0 := Fin.ext h1
      rw [List.getD_eq_getElem?_getD, List.getD_eq_getElem?_getD, List.getElem?_eq_getElem (by omega), List.getElem?_eq_getElem (by omega)] at h2
      have := List.pairwise_iff_getElem.1 hn i k (by omega) (by omega) (by omega)
      exact this h2.symm
theorem ksum_set {m : List Int} {i : Nat} (hi : i < m.length) (h0 : m.getD i 0 = 0) (v : Int) : ksum (m.set i v) = ksum m + kterm v := by
  have e : m = m.take i ++ m.getD i 0 :: m.drop (i + 1) := by
    rw [List.getD_eq_getElem?_getD, List.getElem?_eq_getElem hi]
    show m = m.take i ++ m[i] :: m.drop (i + 1)
    rw [← List.drop_eq_getElem_cons hi, List.take_append_drop]
  have hs : m.set i v = m.take i ++ v :: m.drop (i + 1) := List.set_eq_take_append_cons_drop .. |>.trans (if_pos hi)
  rw [hs]
  conv => rhs; rw [e]
  rw [ksum_append, ksum_cons, ksum_append, ksum_cons, h0]
  show _ = _ + (0 + _) + _
  omega
theorem place_sum (hn : Z.Nodup) (hl : l.length = Z.length) : ∀ k, k ≤ Z.length → ksum (placeK Z l k) = ksum (l.take k)
  | 0, _ => by
    rw [placeK, List.take_zero]
    have : ∀ n, ksum (List.replicate n 0) = 0 := fun n => by
      induction n with
      | zero => rfl
      | succ n ih => rw [List.replicate_succ, ksum_cons, ih]; rfl
    rw [this]; rfl
  | k + 1, hk => by
    have hx : (placeK Z l k).getD (Z.getD k 0).val 0 = 0 := place_not k (by omega) _ fun i hi h2 => by
      rw [List.getD_eq_getElem?_getD, List.getD_eq_getElem?_getD, List.getElem?_eq_getElem (by omega), List.getElem?_eq_getElem (by omega)] at h2
      exact List.pairwise_iff_getElem.1 hn i k (by omega) (by omega) hi h2
    rw [placeK, ksum_set (by rw [place_len]; exact (Z.getD k 0).isLt) hx, place_sum hn hl k (by omega), ksum_next (by omega)]
end
theorem used_occ {cl : List Int} (hl : cl.length = 256) : (occ cl).length = used cl := by
  have e : cl = (List.finRange 256).map (cnt cl) := by
    apply List.ext_getElem
    · simp [hl]
    · intro i h1 h2
      rw [List.getElem_map]
      simp [cnt, h1]
  unfold used
  conv => rhs; rw [e]
  rw [List.countP_map, List.countP_eq_length_filter]
  rfl
theorem occ_len (cl : List Int) : (occ cl).length ≤ 256 := by rw [← occK_all]; exact occK_len cl 256
theorem lens_flat (cl : List Int) : Flat (risV cl).length (lensV cl) := by
  have h := (ris_perm cl).length_eq
  have h2 := occ_len cl
  have D := depths_deep ((risV cl).map (cnt cl)) (by rw [List.length_map]; omega)
  rw [List.length_map] at D
  exact flat_ok D (by omega)
theorem lens_deep (cl : List Int) : Deep (risV cl).length (depthsV ((risV cl).map (cnt cl))) := by
  have h := (ris_perm cl).length_eq
  have h2 := occ_len cl
  have D := depths_deep ((risV cl).map (cnt cl)) (by rw [List.length_map]; omega)
  rw [List.length_map] at D
  exact D
/-- Where a byte value stands among those that occur. -/
theorem ris_at {cl : List Int} {i : Nat} (hi : i < 256) (h : 0 < cl.getD i 0) : ∃ p, p < (risV cl).length ∧ ((risV cl).getD p 0).val = i := by
  have hm : (⟨i, hi⟩ : Fin 256) ∈ risV cl := (ris_perm cl).mem_iff.2 (List.mem_filter.2 ⟨List.mem_finRange _, by unfold cnt; exact decide_eq_true h⟩)
  obtain ⟨p, hp, e⟩ := List.mem_iff_getElem.1 hm
  exact ⟨p, hp, by rw [List.getD_eq_getElem?_getD, List.getElem?_eq_getElem hp]; simp [e]⟩
theorem ris_pos {cl : List Int} {p : Nat} (hp : p < (risV cl).length) : 0 < cl.getD ((risV cl).getD p 0).val 0 := by
  have hm : (risV cl).getD p 0 ∈ risV cl := by rw [List.getD_eq_getElem?_getD, List.getElem?_eq_getElem hp]; exact List.getElem_mem hp
  have := (List.mem_filter.1 ((ris_perm cl).mem_iff.1 hm)).2
  unfold cnt at this
  exact of_decide_eq_true this
theorem theF_ok {cl : List Int} (h : cl.any cbad = false) : theF cl = (placeK (risV cl) (lensV cl) (risV cl).length, true) := by unfold theF; rw [h]; rfl
theorem ris_nodup (cl : List Int) : (risV cl).Nodup := (ris_perm cl).nodup_iff.2 (occ_nodup cl)
theorem lens_ok : LensOk theF where
  len c hc := by
    unfold theF
    split
    · exact List.length_replicate
    · exact place_len _ _ _
  bad c hc h := by unfold theF; rw [if_pos h]
  ok c hc h := by rw [theF_ok h]
  pos c hc h i hi := by
    rw [theF_ok h]
    have F := lens_flat c
    constructor
    · intro h1
      rcases (show 0 < c.getD i 0 ∨ ¬ 0 < c.getD i 0 from Decidable.em _) with h2 | h2
      · exact h2
      · exfalso
        have := place_not (Z := risV c) (l := lensV c) (risV c).length (Nat.le_refl _) ⟨i, hi⟩ (fun p hp e => by
          have h3 := ris_pos hp
          rw [e] at h3
          exact absurd h3 h2)
        have h4 : (placeK (risV c) (lensV c) (risV c).length).getD i 0 = 0 := this
        rw [h4] at h1
        exact absurd h1 (by decide)
    · intro h1
      obtain ⟨p, hp, e⟩ := ris_at hi h1
      have := place_at (l := lensV c) (ris_nodup c) _ (Nat.le_refl _) p hp
      rw [e] at this
      show 0 < (placeK (risV c) (lensV c) (risV c).length).getD i 0
      rw [this]
      have := F.rng p hp; omega
  rng c hc h i hi := by
    rw [theF_ok h]
    have F := lens_flat c
    show 0 ≤ (placeK (risV c) (lensV c) (risV c).length).getD i 0 ∧ (placeK (risV c) (lensV c) (risV c).length).getD i 0 ≤ 11
    rcases (show 0 < c.getD i 0 ∨ ¬ 0 < c.getD i 0 from Decidable.em _) with h1 | h1
    · obtain ⟨p, hp, e⟩ := ris_at hi h1
      have := place_at (l := lensV c) (ris_nodup c) _ (Nat.le_refl _) p hp
      rw [e] at this
      rw [this]
      have := F.rng p hp; omega
    · have h4 : (placeK (risV c) (lensV c) (risV c).length).getD i 0 = 0 := place_not (Z := risV c) (l := lensV c) (risV c).length (Nat.le_refl _) ⟨i, hi⟩ (fun p hp e => by
          have h3 := ris_pos hp
          rw [e] at h3
          exact absurd h3 h1)
      rw [h4]; omega
  one c hc h h1 := by
    rw [theF_ok h]
    have F := lens_flat c
    have hn : (risV c).length = 1 := by rw [(ris_perm c).length_eq, used_occ hc, h1]
    show ksum (placeK (risV c) (lensV c) (risV c).length) = 1024
    rw [place_sum (ris_nodup c) F.len _ (Nat.le_refl _), List.take_of_length_le (by rw [F.len]; exact Nat.le_refl _)]
    exact F.one hn
  full c hc h h1 := by
    rw [theF_ok h]
    have F := lens_flat c
    have hn : 2 ≤ (risV c).length := by rw [(ris_perm c).length_eq, used_occ hc]; exact h1
    show ksum (placeK (risV c) (lensV c) (risV c).length) = 2048
    rw [place_sum (ris_nodup c) F.len _ (Nat.le_refl _), List.take_of_length_le (by rw [F.len]; exact Nat.le_refl _)]
    exact F.full hn
  mono c hc h i j hi hj h1 h2 := by
    rw [theF_ok h]
    have F := lens_flat c
    obtain ⟨p, hp, e⟩ := ris_at hi (Int.lt_trans h1 h2)
    obtain ⟨q, hq, e'⟩ := ris_at hj h1
    have a1 := place_at (l := lensV c) (ris_nodup c) _ (Nat.le_refl _) p hp
    have a2 := place_at (l := lensV c) (ris_nodup c) _ (Nat.le_refl _) q hq
    rw [e] at a1
    rw [e'] at a2
    show (placeK (risV c) (lensV c) (risV c).length).getD i 0 ≤ (placeK (risV c) (lensV c) (risV c).length).getD j 0
    rw [a1, a2]
    rcases Nat.lt_or_ge q p with h3 | h3
    · exact F.mono q p (by omega) hp
    · exfalso
      have hc1 : cnt c ((risV c).getD p 0) = c.getD i 0 := by unfold cnt; rw [e]
      have hc2 : cnt c ((risV c).getD q 0) = c.getD j 0 := by unfold cnt; rw [e']
      rcases Nat.lt_or_ge p q with h4 | h4
      · have := List.pairwise_iff_getElem.1 (ris_pw c) p q hp hq h4
        rw [List.getD_eq_getElem?_getD, List.getElem?_eq_getElem hp] at hc1
        rw [List.getD_eq_getElem?_getD, List.getElem?_eq_getElem hq] at hc2
        simp only [Option.getD_some] at hc1 hc2
        unfold Tot at this
        omega
      · obtain rfl : p = q := by omega
        omega
end Go.Proofs.Ytnkgcibdibgmjaa

namespace Go.Proofs.Ytnkgcibdibgmjaa
open Go.RowKit

theorem join_is : JoinC := fun _ _ _ _ _ _ _ _ _ h1 h2 h3 h4 => join_any h1 h2 h3 h4
theorem wsum (Z : List (Fin 256)) (cl : List Int) {k : Nat} (hk : k < Z.length) : ((Z.take k).map (cnt cl) ++ List.replicate (Z.length - k) 0).set k (cl.getD (Z.getD k 0).val 0) = (Z.take (k + 1)).map (cnt cl) ++ List.replicate (Z.length - (k + 1)) 0 := by
  rw [List.set_append_right _ _ (by simp; omega), show k - ((Z.take k).map (cnt cl)).length = 0 by simp; omega]
  obtain ⟨m, hm⟩ : ∃ m, Z.length - k = m + 1 := ⟨Z.length - k - 1, by omega⟩
  rw [hm, show Z.length - (k + 1) = m by omega, List.replicate_succ, List.set_cons_zero, take_snoc' hk, List.map_append, List.append_assoc, List.getD_eq_getElem?_getD (l := Z), List.getElem?_eq_getElem hk]
  rfl
theorem sl_enc {w : World} {B : Nat} {A : Option Addr} {Z : List (Fin 256)} (h : Sl w B A (Z.map encF)) {k : Nat} (hk : k < Z.length) : ∃ b o, A = some ⟨b, o, none⟩ ∧ b < B ∧ w.cell? ⟨b, o + k, none⟩ = some (.int .i64 (((Z.getD k 0).val : Nat) : Int)) := by
  obtain ⟨b, o, e, hb, hc⟩ := h.at_ (i := k) (by rw [List.length_map]; exact hk)
  refine ⟨b, o, e, hb, ?_⟩
  rw [hc k (by rw [List.length_map]; exact hk), List.getElem_map, List.getD_eq_getElem?_getD, List.getElem?_eq_getElem hk]
  rfl
theorem sl_ints {w : World} {B : Nat} {A : Option Addr} {l : List Int} (h : Sl w B A (l.map (Value.int .i64))) {k : Nat} (hk : k < l.length) : ∃ b o, A = some ⟨b, o, none⟩ ∧ b < B ∧ w.cell? ⟨b, o + k, none⟩ = some (.int .i64 (l.getD k 0)) := by
  obtain ⟨b, o, e, hb, hc⟩ := h.at_ (i := k) (by rw [List.length_map]; exact hk)
  refine ⟨b, o, e, hb, ?_⟩
  rw [hc k (by rw [List.length_map]; exact hk), List.getElem_map, List.getD_eq_getElem?_getD, List.getElem?_eq_getElem hk]
  rfl

theorem Sl.far {w : World} {B b o : Nat} {xs : List Value} (h : Sl w B (some ⟨b, o, none⟩) xs) {p : Addr} (hp : p.block ≠ b) (u : Value) : Sl (w.setCell p u) B (some ⟨b, o, none⟩) xs := by
  rcases h with h | ⟨b', o', e, hb, hc⟩
  · exact .inl h
  · refine .inr ⟨b', o', e, hb, fun i hi => ?_⟩
    injection e with e
    injection e with e1 e2 _
    rw [World.cell?_setCell_other _ _ _ _ (by intro e; rw [e, ← e1] at hp; exact hp rfl)]
    exact hc i hi
theorem cnt_lens (c : List Int) : ((risV c).map (cnt c)).length = (risV c).length := List.length_map _

set_option maxRecDepth 8000 in
set_option maxHeartbeats 8000000 in
theorem lens_is : LengthsC theF := by
  intro w c hc
  obtain ⟨t, N, ht, hN, hagg, hix, hund, hsz, hz0⟩ := t256
  obtain ⟨Z0, hZ0⟩ : ∃ Z, Z = ints (List.replicate 256 0) := ⟨_, rfl⟩
  rw [← hZ0] at hz0
  have hbd0 : ∀ w, (Instr.build 50 #[]).run Try.prog w = .ok (.agg (ints (List.replicate 256 0))) w := fun w => by kernel_rfl
  rw [← ht, ← hZ0] at hbd0
  obtain ⟨C, hC⟩ : ∃ C, C = ints c := ⟨_, rfl⟩
  rw [← hC]
  have Hix := Lib.hid hix
  have HC := Lib.hid hC
  have HZ0 := Lib.hid hZ0
  have HN := Lib.hid hN
  have Ht := Lib.hid ht
  have VA := Lib.hid (fun W => valid_any c hc W)
  have RA := Lib.hid (fun W => rarest_any c hc W)
  rw [← hC] at VA RA
  have E1 : ∀ a, Op.box 50 a = Op.box t a := by rw [ht]; exact fun _ => rfl
  have E2 : ∀ a, Op.load 50 a = Op.load t a := by rw [ht]; exact fun _ => rfl
  have E3 : ∀ a b, Op.indexAddr 50 a b = Op.indexAddr t a b := by rw [ht]; exact fun _ _ => rfl
  have E4 : Op.alloc 50 = Op.alloc t := by rw [ht]
  have E5 : ∀ a, Op.build 50 a = Op.build t a := by rw [ht]; exact fun _ => rfl
  have E6 : ∀ a b, Op.store 50 a b = Op.store t a b := by rw [ht]; exact fun _ _ => rfl
  clear ht hN hC hZ0 hix
  obtain ⟨W, hW⟩ : ∃ W, W = (w.alloc (.cells C t)).alloc (.cells Z0 t) := ⟨_, rfl⟩
  have b1 : Blk W w.heap.size t C := by rw [hW]; exact (Blk.new _ _ _).alloc _
  have b2 : Blk W (w.heap.size + 1) t Z0 := by
    rw [hW, show w.heap.size + 1 = (w.alloc (.cells C t)).heap.size by simp]; exact Blk.new _ _ _
  have hWb : Below w.heap.size w W := by rw [hW]; exact ((Below.refl _ _).alloc (Nat.le_refl _) _).alloc (by simp) _
  have hWs : W.heap.size = w.heap.size + 2 := by rw [hW]; simp
  have Ld := Lib.hid (fun (X : World) (hb : Below W.heap.size W X) => (load_blk (N := N) (by rw [HC.out, ints_size, hc, HN.out]) (b1.keep (hb.block _ b1.lt)) : (loadCellsFrom ⟨w.heap.size, 0, none⟩ 0 N #[]).run Try.prog X = .ok C X))
  have Cx := Lib.hid (fun (X : World) (hb : Below W.heap.size W X) (k : Nat) (hk : k < 256) => show X.cell? ⟨w.heap.size, k, none⟩ = some (.int .i64 (c.getD k 0)) from by
    rw [hb.cell (p := ⟨w.heap.size, k, none⟩) b1.lt, b1.cell, HC.out, ints_at (by omega)])
  have B2 := Lib.hid (fun (X : World) (hb : Below W.heap.size W X) => (b2.keep (hb.block _ b2.lt) : Blk X (w.heap.size + 1) t Z0))
  have HWb := Lib.hid hWb
  have eW : (w.alloc (.cells C t)).alloc (.cells Z0 t) = W := hW.symm
  have ld := Ld.out W (Below.refl _ _)
  have hZs : Z0.size = N := by rw [HZ0.out, ints_size, List.length_replicate, HN.out]
  have hst0 : ∀ (X : World) (D : Array Value), Below W.heap.size W X → D.size = N → (∀ u ∈ D.toList, u.oneCell' = true) → (storeCells ⟨w.heap.size + 1, 0, none⟩ D.toList 0).run Try.prog X = .ok () (X.setCells (w.heap.size + 1) 0 D.toList) ∧ Blk (X.setCells (w.heap.size + 1) 0 D.toList) (w.heap.size + 1) t D := fun X D hb hD h1 => store_blk (by rw [hD, hZs]) (B2.out X hb) h1
  have St := Lib.hid hst0
  clear hW b1 b2 hWb hst0
  go_enter Try.func25, Try.ntmps25
  simp only [E1, E2, E3, E4, E5, E6]
  clear E1 E2 E3 E4 E5 E6
  go_wp2_with fail
  refine (VA.out _).mono ?_
  rintro e w1 ⟨rfl, hb1⟩
  have HB1 := Lib.hid hb1
  clear ld eW hb1 VA
  obtain ⟨bad, hbad⟩ : ∃ b, b = c.any cbad := ⟨_, rfl⟩
  rw [← hbad]
  have HBad := Lib.hid hbad
  clear hbad
  cases bad with
  | true =>
    obtain ⟨s1, hb2⟩ := St.out w1 Z0 HB1.out hZs (fun u hu => by
      have := ints_one (List.replicate 256 0)
      rw [← HZ0.out, Array.all_eq_true_iff_forall_mem] at this
      exact this u (by simpa using hu))
    have l2 := load_blk (N := N) hZs hb2
    have hbl2 := Lib.hid ((HWb.out.trans (HB1.out.mono HWb.out.size)).trans (below_cells (B := w.heap.size) (w := w1) Z0.toList (w.heap.size + 1) 0 (by omega)))
    have HF := Lib.hid (show theF c = (List.replicate 256 0, false) from lens_ok.bad c hc HBad.out.symm)
    generalize hW2 : w1.setCells (w.heap.size + 1) 0 Z0.toList = W2 at *
    clear hW2 hb2
    go_wp2_with fail
    refine bodyPost_ret (v := .tuple #[.agg Z0, .bool false]) ?_ rfl ⟨by rw [HF.out, HZ0.out], hbl2.out⟩
    simp [results, Try.results25]
    rw [← Ht.out]
    go_simp
  | false =>
    have ld1 := Ld.out w1 HB1.out
    have HF := Lib.hid (theF_ok (cl := c) HBad.out.symm)
    go_wp2_with fail
    refine (RA.out _).mono ?_
    rintro e w2 ⟨A, n, cap, Z, rfl, hZn, hZp, hZw, hslZ, hb2⟩
    have hZe : Z = risV c := ris_only hZp hZw
    subst hZe
    have hn2 : n ≤ 256 := by rw [← hZn, (ris_perm c).length_eq]; exact occ_len c
    have HslZ := Lib.hid hslZ
    have Hn := Lib.hid hZn
    have HB2 := Lib.hid (HB1.out.trans (hb2.mono HB1.out.size))
    clear hb2 hslZ hZp hZw ld1 RA HB1 hZn
    have mk := fun X => make_ints n (by omega) X
    rw [icells_ints] at mk
    have Wt := Lib.hid (show Blk (w2.alloc (.cells (ints (List.replicate n 0)) 3)) w2.heap.size 3 (ints (((risV c).take 0).map (cnt c) ++ List.replicate (n - 0) 0)) by
      rw [List.take_zero, List.map_nil, List.nil_append, Nat.sub_zero]; exact Blk.new _ _ _)
    have HW2 := Lib.hid ((Below.refl w2.heap.size w2).alloc (Nat.le_refl _) (.cells (ints (List.replicate n 0)) 3))
    have hs2 := HB2.out.size
    go_upto_region 5 with fail
    generalize w2.alloc (.cells (ints (List.replicate n 0)) 3) = w3 at *
    generalize hwb : w2.heap.size = wb at *
    generalize hg0 : w.heap.size = g0 at *
    go_wp2_with fail
    go_loopw [6, 7, 22] (fun _ _ vk wr => ∃ k : Nat, k ≤ n ∧ vk = .int .i64 k ∧ Blk wr wb 3 (ints (((risV c).take k).map (cnt c) ++ List.replicate (n - k) 0)) ∧ Below wb w2 wr) (fun _ _ vk _ => n - (intOf vk).toNat)
    case atStart => exact ⟨0, Nat.zero_le _, rfl, Wt.out, HW2.out⟩
    case round =>
      obtain ⟨k, hk, rfl, hblk, hbel⟩ := hrel
      have HBk := Lib.hid hblk
      have HBe := Lib.hid hbel
      have HBW := Lib.hid (HB2.out.trans (hbel.mono (by omega)))
      clear hblk hbel Wt HW2
      by_cases hlt : k < n
      · have hltz : (k : Int) < (n : Int) := by omega
        have hkz : k < (risV c).length := by rw [Hn.out]; exact hlt
        obtain ⟨b, o, rfl, hbw, cz⟩ := sl_enc (HslZ.out.below HBe.out) hkz
        have Nx := Lib.hid (wsum (risV c) c hkz)
        have cw := HBk.out.cell k
        rw [ints_at (by simp [Hn.out]; omega)] at cw
        have fw := HBk.out.frozen k
        have St1 := HBk.out.set_ k (.int .i64 (c.getD ((risV c).getD k 0).val 0))
        rw [ints_set] at St1
        have hv := ((risV c).getD k 0).isLt
        have cc := Cx.out wr HBW.out _ hv
        have ix := Hix.out .i64 _ hv g0
        rw [← Hn.out, Nx.out, Hn.out] at St1
        have HSt := Lib.hid St1
        have HBs := Lib.hid (HBe.out.setCell (p := ⟨wb, k, none⟩) (Nat.le_refl _) (.int .i64 (c.getD ((risV c).getD k 0).val 0)))
        clear St1 Nx
        generalize (((risV c).take k).map (cnt c) ++ List.replicate (n - k) 0).getD k 0 = y0 at *
        generalize c.getD ((risV c).getD k 0).val 0 = x at *
        generalize ((risV c).getD k 0).val = v at *
        clear hbw
        go_wp2_with fail
        go_roundw
        case rel => exact ⟨k + 1, by omega, by go_num, HSt.out, HBs.out⟩
        case measure => simp [intOf]; omega
      · have hltz : ¬ (k : Int) < (n : Int) := by omega
        obtain rfl : k = n := by omega
        have hW3 := HBk.out
        rw [Nat.sub_self, List.replicate_zero, List.append_nil, List.take_of_length_le (by rw [Hn.out]; exact Nat.le_refl _)] at hW3
        have HW3 := Lib.hid (hW3.alloc (.cells Z0 t))
        have Gl := Lib.hid (Blk.new wr t Z0)
        have HBx := Lib.hid (HBW.out.alloc HBW.out.size (.cells Z0 t))
        have HBy := Lib.hid (HBe.out.alloc (by have := HBe.out.size; omega) (.cells Z0 t))
        have hgs : (wr.alloc (.cells Z0 t)).heap.size = wr.heap.size + 1 := World.size_alloc _ _
        have hwbl : wb < wr.heap.size := hW3.lt
        clear hW3 HBk HBe HBW hltz
        go_upto_region 11 with fail
        generalize hw4 : wr.alloc (.cells Z0 t) = w4 at *
        generalize hgl : wr.heap.size = gl at *
        have D1 := Lib.hid (depths_any join_is ((risV c).map (cnt c)) k (by rw [cnt_lens]; exact Hn.out) hn2 ⟨wb, 0, none⟩ k (Nat.le_refl _) w4 (.inr ⟨wb, 0, rfl, by omega, fun i hi => by
          rw [List.length_map] at hi
          rw [Nat.zero_add, HW3.out.cell, ints_at hi, List.getElem_map, List.getD_eq_getElem?_getD, List.getElem?_eq_getElem hi]; rfl⟩))
        go_wp2_with fail
        refine D1.out.mono ?_
        rintro e w5 ⟨l1, rfl, hs5, hb5⟩
        have HS5 := Lib.hid hs5
        have HB5 := Lib.hid hb5
        clear hs5 hb5 D1
        have D2 := Lib.hid (flatter_any (depthsV ((risV c).map (cnt c))) k (by have := lens_deep c; rw [Hn.out] at this; exact this) hn2 (some ⟨l1, 0, none⟩) (2 * k - 1) w5 HS5.out)
        go_wp2_with fail
        refine D2.out.mono ?_
        rintro e w6 ⟨l2, rfl, hl2, hs6, hb6⟩
        have HS6 := Lib.hid (show Sl w6 w6.heap.size (some ⟨l2, 0, none⟩) ((lensV c).map (Value.int .i64)) from hs6)
        have hz5 := HB5.out.size
        have hz6 := hb6.size
        have HB6 := Lib.hid (HB5.out.trans (hb6.mono hz5))
        have Gl6 := Lib.hid (Gl.out.keep (HB6.out.block gl (by omega)))
        clear hs6 hb6 D2 HB5 HS5 Gl
        have hlen : (lensV c).length = k := by rw [(lens_flat c).len]; exact Hn.out
        have Hlen := Lib.hid hlen
        have hgl2 : gl ≠ l2 := by omega
        have HBu := Lib.hid (HBx.out.trans (HB6.out.mono (by have := HBx.out.size; omega)))
        have HBv := Lib.hid (HBy.out.trans (HB6.out.mono (by have := HBy.out.size; omega)))
        clear hlen HBx HBy HB6 HW3
        have hgb : gl < w6.heap.size := Gl6.out.lt
        go_wp2_with fail
        go_loopw [9, 10, 38] (fun _ _ vk wr => ∃ j : Nat, j ≤ k ∧ vk = .int .i64 j ∧ Blk wr gl t (ints (placeK (risV c) (lensV c) j)) ∧ Sl wr w6.heap.size (some ⟨l2, 0, none⟩) ((lensV c).map (Value.int .i64)) ∧ Below wb w2 wr ∧ Below W.heap.size W wr) (fun _ _ vk _ => k - (intOf vk).toNat)
        case atStart => exact ⟨0, Nat.zero_le _, rfl, by rw [placeK, ← HZ0.out]; exact Gl6.out, HS6.out, HBv.out, HBu.out⟩
        case round =>
          obtain ⟨j, hj, rfl, hblk, hsl, hbe, hbu⟩ := hrel
          have HBk := Lib.hid hblk
          have HSl := Lib.hid hsl
          have HBe := Lib.hid hbe
          have HBw := Lib.hid hbu
          clear hblk hsl hbe hbu Gl6 HS6 HBv HBu
          by_cases hjt : j < k
          · have hjz : (j : Int) < (k : Int) := by omega
            have hkz : j < (risV c).length := by rw [Hn.out]; exact hjt
            obtain ⟨b, o, rfl, hbw, cz⟩ := sl_enc (HslZ.out.below HBe.out) hkz
            obtain ⟨b', o', e', hbw', cl'⟩ := sl_ints HSl.out (k := j) (by rw [Hlen.out]; exact hjt)
            injection e' with e'
            injection e' with e1 e2 _
            subst e1; subst e2
            have hv := ((risV c).getD j 0).isLt
            have ix := Hix.out .i64 _ hv gl
            have cg := HBk.out.cell ((risV c).getD j 0).val
            rw [ints_at (by rw [place_len]; exact hv)] at cg
            have fg := HBk.out.frozen ((risV c).getD j 0).val
            have St1 := HBk.out.set_ ((risV c).getD j 0).val (.int .i64 ((lensV c).getD j 0))
            rw [ints_set] at St1
            have HSt := Lib.hid (show Blk _ gl t (ints (placeK (risV c) (lensV c) (j + 1))) from St1)
            have HBe2 := Lib.hid (HBe.out.setCell (p := ⟨gl, ((risV c).getD j 0).val, none⟩) (by show wb ≤ gl; omega) (.int .i64 ((lensV c).getD j 0)))
            have HBw2 := Lib.hid (HBw.out.setCell (p := ⟨gl, ((risV c).getD j 0).val, none⟩) (by show W.heap.size ≤ gl; omega) (.int .i64 ((lensV c).getD j 0)))
            have HSl2 := Lib.hid (HSl.out.far (p := ⟨gl, ((risV c).getD j 0).val, none⟩) hgl2 (.int .i64 ((lensV c).getD j 0)))
            clear St1
            generalize (placeK (risV c) (lensV c) j).getD ((risV c).getD j 0).val 0 = y0 at *
            generalize (lensV c).getD j 0 = x at *
            generalize ((risV c).getD j 0).val = v at *
            rw [Nat.zero_add] at cl'
            clear hbw hbw'
            go_wp2_with fail
            go_roundw
            case rel => exact ⟨j + 1, by omega, by go_num, HSt.out, HSl2.out, HBe2.out, HBw2.out⟩
            case measure => simp [intOf]; omega
          · have hjz : ¬ (j : Int) < (k : Int) := by omega
            obtain rfl : j = k := by omega
            obtain ⟨T, hT⟩ : ∃ T, T = ints (placeK (risV c) (lensV c) j) := ⟨_, rfl⟩
            have hb4 := HBk.out
            rw [← hT] at hb4
            have hTs : T.size = N := by rw [hT, ints_size, place_len, HN.out]
            have l1 := load_blk (N := N) hTs hb4
            obtain ⟨s1, hb5⟩ := St.out wr T HBw.out hTs (fun u hu => by
              have := ints_one (placeK (risV c) (lensV c) j)
              rw [← hT, Array.all_eq_true_iff_forall_mem] at this
              exact this u (by simpa using hu))
            have l3 := load_blk (N := N) hTs hb5
            have hbl2 := Lib.hid ((HWb.out.trans (HBw.out.mono (by omega))).trans (below_cells (B := g0) (w := wr) T.toList (g0 + 1) 0 (by omega)))
            have HTe := Lib.hid (show theF c = (placeK (risV c) (lensV c) j, true) by rw [HF.out, Hn.out])
            have HT := Lib.hid hT
            generalize hW7 : wr.setCells (g0 + 1) 0 T.toList = W7 at *
            clear hW7 hb5 hb4 hT hjz
            go_wp2_with fail
            refine bodyPost_ret (v := .tuple #[.agg T, .bool true]) ?_ rfl ⟨by rw [HTe.out, HT.out], by rw [hg0]; exact hbl2.out⟩
            simp [results, Try.results25]
            rw [← Ht.out]
            go_simp
end Go.Proofs.Ytnkgcibdibgmjaa


