/- RunsFirst under the contracts. -/
import Derived.Test.YtdbgappaoeopbaaRunm
namespace Go.Proofs.Ytdbgappaoeopbaa
open Go.RowKit

/-- Where the first hole lies that has room, or -1. -/
def wantV : Option Nat → Int
  | none => -1
  | some a => a
theorem wantV_next (W : Option Nat) (a k s : Nat) : wantV (match W with | some a => some a | none => if k ≤ s then some a else none) = if k ≤ s ∧ wantV W < 0 then (a : Int) else wantV W := by
  cases W with
  | none => by_cases h : k ≤ s <;> simp [h, wantV]
  | some b =>
    have h : ¬ (k ≤ s ∧ wantV (some b) < 0) := fun e => by
      have : (b : Int) < 0 := e.2
      omega
    exact (if_neg h).symm
theorem H_few : ∀ ss : List Nat, (∀ x ∈ ss, x ≤ 8) → (Rn.H ss).length ≤ 9 * ss.length
  | [], _ => by simp [Rn.H]
  | s :: ss, h => by
    have := H_few ss fun x hx => h x (by simp [hx])
    have := h s (by simp)
    rw [Rn.H]
    simp only [List.length_append, List.length_replicate, List.length_cons, List.length_nil]
    omega
/-- The map after holes of these sizes. -/
def holes (ss : List Nat) : List Bool := Rn.H ss ++ List.replicate (400 - (Rn.H ss).length) true
/-- The sizes of the first i holes. -/
def sizes (l : List Nat) (i : Nat) : List Nat := (l.take i).map (· % 9)
theorem sizes_few (l : List Nat) (i : Nat) : ∀ x ∈ sizes l i, x ≤ 8 := fun x hx => by
  obtain ⟨y, _, rfl⟩ := List.mem_map.1 hx
  show y % 9 ≤ 8
  omega
theorem sizes_next {l : List Nat} {i : Nat} (h : i < l.length) : sizes l (i + 1) = sizes l i ++ [l.getD i 0 % 9] := by
  unfold sizes
  rw [List.take_add_one, List.getElem?_eq_getElem h, List.map_append]
  simp [List.getD_eq_getElem?_getD, List.getElem?_eq_getElem h]
theorem sizes_len {l : List Nat} {i : Nat} (h : i ≤ l.length) : (sizes l i).length = i := by
  unfold sizes
  rw [List.length_map, List.length_take]
  omega
theorem free_few (F : List Bool) : Rn.freeN F ≤ F.length := List.countP_le_length
theorem great_few (F : List Bool) : Rn.greatest F ≤ F.length := by
  have h := max_few (Rn.list F) F.length (fun r hr => by have := Rn.list_end F r hr; omega) (Rn.list F).length
  rw [List.take_length] at h
  exact h
theorem holes_mark {ss : List Nat} {s : Nat} (h : (Rn.H ss).length + s + 1 ≤ 400) : Rn.mark (holes ss) (((Rn.H ss).length + s : Nat) : Int) 1 = (true, holes (ss ++ [s])) := by
  unfold holes
  rw [show 400 - (Rn.H ss).length = s + ((400 - (Rn.H ss).length - s - 1) + 1) by omega, Rn.mark_hole, Rn.H_snoc]
  congr 3
  simp only [List.length_append, List.length_replicate, List.length_cons, List.length_nil]
  omega

structure Fst (Rep : World → Nat → (Nat → Prop) → List Bool → Prop) (B g : Nat) (l : List Nat) (k i : Nat) (v6 v7 v8 v9 v11 : Value) (wr : World) : Prop where
  i_ : v11 = .int .i64 (i : Int)
  at_ : v6 = .int .i64 ((Rn.H (sizes l i)).length : Int)
  want : v7 = .int .i64 (wantV (Rn.want k (sizes l i)))
  sum : v8 = .int .i64 (Rn.freeN (Rn.H (sizes l i)) : Int)
  most : v9 = .int .i64 (Rn.greatest (Rn.H (sizes l i)) : Int)
  map : MineR Rep wr B g (holes (sizes l i))

set_option maxRecDepth 8000 in
set_option maxHeartbeats 16000000 in
theorem first_any {Rep : World → Nat → (Nat → Prop) → List Bool → Prop} (hC : RunsC Rep) {w : World} {A : Option Addr} {c : Nat} {l : List Nat} (hsl : Sl w w.heap.size A (byts l)) (hl : ∀ x ∈ l, x < 256) (n : Nat) (hn : n < 256) :
    Calls Try.prog 5 #[.slice A l.length c, .int .u8 n] w fun e w' => e = .returned (.bool true) ∧ Below w.heap.size w w' := by
  have AW := Lib.hid (rawake_any hC w)
  have HC := Lib.hid hC
  obtain ⟨B, hB⟩ : ∃ B, B = w.heap.size := ⟨_, rfl⟩
  have HBw := Lib.hid (show B ≤ w.heap.size by omega)
  rw [← hB] at AW hsl ⊢
  have SL := Lib.hid hsl
  have HL := Lib.hid hl
  obtain ⟨q, hq⟩ : ∃ q, q = l.length := ⟨_, rfl⟩
  have Hq := Lib.hid hq
  rw [← hq]
  obtain ⟨k, hk⟩ : ∃ k, k = 1 + n % 10 := ⟨_, rfl⟩
  have hk1 : 1 ≤ k := by omega
  have hk2 : k ≤ 10 := by omega
  clear hC hB hsl hl hq
  by_cases h40 : 40 < q
  · have q1 : decide (40 < (q : Int)) = true := by rw [decide_eq_true_eq]; omega
    have q2 : decide (40 < q) = true := by rw [decide_eq_true_eq]; exact h40
    go_enter Try.func5, Try.ntmps5
    go_wp2_with fail
    refine AW.out.mono ?_
    rintro e w0 ⟨rfl, hb0⟩
    go_wp2_with fail
    go_ret
    exact ⟨rfl, hb0⟩
  have q1 : decide (40 < (q : Int)) = false := by rw [decide_eq_false_iff_not]; omega
  have q2 : decide (40 < q) = false := by rw [decide_eq_false_iff_not]; exact h40
  go_enter Try.func5, Try.ntmps5
  go_wp2_with fail
  refine AW.out.mono ?_
  rintro e w0 ⟨rfl, hb0⟩
  have S0 := Lib.hid (Nat.le_trans HBw.out hb0.size)
  have H0 := Lib.hid hb0
  have N := new_mine HC.out 400 w0 (by unfold I64; omega)
  rw [show Rn.new 400 = holes [] by rfl] at N
  have N1 := Lib.hid N
  clear N AW hb0
  go_wp2_with fail
  refine N1.out.mono ?_
  rintro e w1 ⟨g, rfl, m1, hb1⟩
  have S1 := Lib.hid (Nat.le_trans S0.out hb1.size)
  have H1 := Lib.hid (H0.out.trans (hb1.mono S0.out))
  have M1 := Lib.hid (show MineR Rep w1 B g (holes []) from by obtain ⟨X, e1, e2⟩ := m1; exact ⟨X, e1, fun b hb => Nat.le_trans S0.out (e2 b hb)⟩)
  clear m1 hb1 N1 S0 H0
  have HK := Lib.hid (show (1 : Int) + (n : Int) % 10 = (k : Int) by omega)
  clear hk
  go_wp2_with fail
  rw [HK.out]
  go_loopw [6, 7, 8, 9, 11] (fun v6 v7 v8 v9 v11 wr => ∃ i : Nat, i ≤ q ∧ Fst Rep B g l k i v6 v7 v8 v9 v11 wr ∧ Below B w wr) (fun _ _ _ _ v11 _ => q - (intOf v11).toNat)
  case atStart => exact ⟨0, Nat.zero_le _, ⟨rfl, rfl, rfl, rfl, rfl, M1.out⟩, H1.out⟩
  case round =>
    obtain ⟨i, hi, D, hb⟩ := hrel
    obtain ⟨rfl, rfl, rfl, rfl, rfl, mp⟩ := D
    have HB := Lib.hid hb
    have Sr := Lib.hid (Nat.le_trans HBw.out hb.size)
    have hss := H_few (sizes l i) (sizes_few l i)
    rw [sizes_len (by rw [← Hq.out]; exact hi)] at hss
    by_cases hiq : i < q
    · have z0 : decide ((i : Int) < (q : Int)) = true := by rw [decide_eq_true_eq]; omega
      have z0' : decide (i < q) = true := by rw [decide_eq_true_eq]; exact hiq
      obtain ⟨bb, o, rfl, hB, hcell⟩ := (SL.out.below hb).at_ (i := i) (by rw [byts_length, ← Hq.out]; exact hiq)
      have hd1 : wr.cell? ⟨bb, o + i, none⟩ = some (.int .u8 ((l.getD i 0 : Nat) : Int)) := by
        have h1 : i < l.length := by rw [← Hq.out]; exact hiq
        have := hcell i (by rw [byts_length]; exact h1)
        rw [this, List.getD_eq_getElem?_getD, List.getElem?_eq_getElem h1]
        simp [byts]
      have nx := sizes_next (l := l) (i := i) (by rw [← Hq.out]; exact hiq)
      have hd : l.getD i 0 < 256 := by
        have h1 : i < l.length := by rw [← Hq.out]; exact hiq
        rw [List.getD_eq_getElem?_getD, List.getElem?_eq_getElem h1]
        exact HL.out _ (List.getElem_mem _)
      obtain ⟨d, hdd⟩ : ∃ d, d = l.getD i 0 := ⟨_, rfl⟩
      rw [← hdd] at hd1 hd nx
      obtain ⟨s, hs⟩ : ∃ s, s = d % 9 := ⟨_, rfl⟩
      rw [← hs] at nx
      have hs8 : s ≤ 8 := by omega
      have hs' : (d : Int) % 9 = (s : Int) := by omega
      have hf := Rn.H_free s (sizes l i)
      have hg := Rn.H_great s (sizes l i)
      have hw := Rn.want_snoc hk1 s (sizes l i)
      have hle := Rn.H_len_snoc s (sizes l i)
      have hfe := free_few (Rn.H (sizes l i))
      have hge := great_few (Rn.H (sizes l i))
      have hmk := holes_mark (ss := sizes l i) (s := s) (by omega)
      have N := mark_mine HC.out mp Sr.out (((Rn.H (sizes l i)).length + s : Nat) : Int) 1 (by unfold I64; omega) (by unfold I64; omega)
      rw [hmk] at N
      rw [← nx] at hf hg hw hle N
      obtain ⟨a, ha⟩ : ∃ a, a = (Rn.H (sizes l i)).length := ⟨_, rfl⟩
      obtain ⟨u, hu⟩ : ∃ u, u = Rn.freeN (Rn.H (sizes l i)) := ⟨_, rfl⟩
      obtain ⟨m, hm⟩ : ∃ m, m = Rn.greatest (Rn.H (sizes l i)) := ⟨_, rfl⟩
      obtain ⟨x, hx⟩ : ∃ x, x = wantV (Rn.want k (sizes l i)) := ⟨_, rfl⟩
      have hw' : wantV (Rn.want k (sizes l (i + 1))) = if k ≤ s ∧ x < 0 then (a : Int) else x := by
        rw [hw, hx, ha]
        exact wantV_next _ _ _ _
      rw [← ha, ← hu, ← hm, ← hx]
      rw [← ha] at hss hle hfe hge N
      rw [← hu] at hf hfe
      rw [← hm] at hg hge
      have Nxt := Lib.hid (fun wr' v6 v7 v8 v9 v11 (h : MineR Rep wr' B g (holes (sizes l (i + 1)))) (e6 : v6 = .int .i64 ((a + s + 1 : Nat) : Int)) (e7 : v7 = .int .i64 (if k ≤ s ∧ x < 0 then (a : Int) else x)) (e8 : v8 = .int .i64 ((u + s : Nat) : Int)) (e9 : v9 = .int .i64 ((max m s : Nat) : Int)) (e11 : v11 = .int .i64 ((i + 1 : Nat) : Int)) => (⟨e11, by rw [hle]; exact e6, by rw [hw']; exact e7, by rw [hf]; exact e8, by rw [hg]; exact e9, h⟩ : Fst Rep B g l k (i + 1) v6 v7 v8 v9 v11 wr'))
      have N2 := Lib.hid N
      clear N hf hg hw hle hw' hmk nx hcell hdd hs ha hu hm hx mp hb
      by_cases c1 : k ≤ s
      · have y1 : decide ((k : Int) ≤ (s : Int)) = true := by rw [decide_eq_true_eq]; omega
        have y1' : decide (k ≤ s) = true := by rw [decide_eq_true_eq]; exact c1
        by_cases c2 : x < 0
        · have y2 : decide (x < 0) = true := by rw [decide_eq_true_eq]; exact c2
          rw [if_pos ⟨c1, c2⟩] at Nxt
          go_upto_region 14 with fail
          rw [hs']
          go_wp2_with fail
          refine N2.out.mono ?_
          rintro e wr' ⟨rfl, m', hb'⟩
          go_wp2_with fail
          go_roundw
          case rel => exact ⟨i + 1, by omega, Nxt.out _ _ _ _ _ _ m' (by go_num) rfl (by go_num) (by first | go_num | (congr 1; omega)) (by go_num), HB.out.trans hb'⟩
          case measure => show q - ((i : Int) + 1).toNat < q - ((i : Int)).toNat; omega
        · have y2 : decide (x < 0) = false := by rw [decide_eq_false_iff_not]; exact c2
          rw [if_neg (fun h => c2 h.2)] at Nxt
          go_upto_region 14 with fail
          rw [hs']
          go_wp2_with fail
          refine N2.out.mono ?_
          rintro e wr' ⟨rfl, m', hb'⟩
          go_wp2_with fail
          go_roundw
          case rel => exact ⟨i + 1, by omega, Nxt.out _ _ _ _ _ _ m' (by go_num) rfl (by go_num) (by first | go_num | (congr 1; omega)) (by go_num), HB.out.trans hb'⟩
          case measure => show q - ((i : Int) + 1).toNat < q - ((i : Int)).toNat; omega
      · have y1 : decide ((k : Int) ≤ (s : Int)) = false := by rw [decide_eq_false_iff_not]; omega
        have y1' : decide (k ≤ s) = false := by rw [decide_eq_false_iff_not]; exact c1
        rw [if_neg (fun h => c1 h.1)] at Nxt
        go_upto_region 14 with fail
        rw [hs']
        go_wp2_with fail
        refine N2.out.mono ?_
        rintro e wr' ⟨rfl, m', hb'⟩
        go_wp2_with fail
        go_roundw
        case rel => exact ⟨i + 1, by omega, Nxt.out _ _ _ _ _ _ m' (by go_num) rfl (by go_num) (by first | go_num | (congr 1; omega)) (by go_num), HB.out.trans hb'⟩
        case measure => show q - ((i : Int) + 1).toNat < q - ((i : Int)).toNat; omega
    · have hiq' : i = q := by omega
      subst hiq'
      have z0 : decide ((i : Int) < (i : Int)) = false := by simp
      have z0' : decide (i < i) = false := by simp
      obtain ⟨hli, hfr, hgr⟩ := Rn.full_holes (sizes l i) (400 - (Rn.H (sizes l i)).length)
      have hmr := Rn.mark_rest (F := Rn.H (sizes l i)) (n := 400 - (Rn.H (sizes l i)).length) (by omega)
      have N := mark_mine HC.out mp Sr.out ((Rn.H (sizes l i)).length : Int) (400 - ((Rn.H (sizes l i)).length : Int)) (by unfold I64; omega) (by unfold I64; omega)
      rw [holes, show (400 : Int) - ((Rn.H (sizes l i)).length : Int) = ((400 - (Rn.H (sizes l i)).length : Nat) : Int) by omega, hmr, show ((400 - (Rn.H (sizes l i)).length : Nat) : Int) = (400 : Int) - ((Rn.H (sizes l i)).length : Int) by omega] at N
      have hfe := free_few (Rn.H (sizes l i))
      have hge := great_few (Rn.H (sizes l i))
      have hx : Rn.want k (sizes l i) = ((Rn.list (Rn.H (sizes l i))).find? fun r => decide (k ≤ r.2)).map (·.1) := rfl
      rw [← hli] at hx
      obtain ⟨G, hG⟩ : ∃ G, G = Rn.H (sizes l i) ++ List.replicate (400 - (Rn.H (sizes l i)).length) false := ⟨_, rfl⟩
      have hGl : G.length ≤ 400 := by rw [hG, List.length_append, List.length_replicate]; omega
      rw [← hG] at hx hli hfr hgr N
      rw [← hfr] at hfe
      rw [← hgr] at hge
      obtain ⟨x, hxx⟩ : ∃ x, x = wantV (Rn.want k (sizes l i)) := ⟨_, rfl⟩
      rw [← hxx, ← hfr, ← hgr]
      rw [hx] at hxx
      obtain ⟨a, ha⟩ : ∃ a, a = (Rn.H (sizes l i)).length := ⟨_, rfl⟩
      rw [← ha] at hss hfe hge N ⊢
      obtain ⟨u, hu⟩ : ∃ u, u = Rn.freeN G := ⟨_, rfl⟩
      obtain ⟨m, hm⟩ : ∃ m, m = Rn.greatest G := ⟨_, rfl⟩
      rw [← hu] at hfe ⊢
      rw [← hm] at hge ⊢
      have Hu := Lib.hid hu
      have Hm := Lib.hid hm
      have N2 := Lib.hid N
      have HGl := Lib.hid hGl
      clear N hG hmr hx hli hfr hgr mp ha hu hm hb hGl
      have HBB := Lib.hid HB.out
      cases hW : (Rn.list G).find? fun r => decide (k ≤ r.2) with
      | none =>
        have ht := Lib.hid (Rn.take_none hk1 hW)
        have hx1 : x = -1 := by rw [hxx, hW]; rfl
        clear hxx
        subst hx1
        clear hW HB
        go_wp2_with fail
        refine N2.out.mono ?_
        rintro e w2 ⟨rfl, m2, hb2⟩
        have S2 := Lib.hid (Nat.le_trans Sr.out hb2.size)
        have H2 := Lib.hid (HBB.out.trans hb2)
        have N := free_mine HC.out m2
        rw [← Hu.out] at N
        have N3 := Lib.hid N
        clear N N2 m2 hb2 HBB Sr
        go_wp2_with fail
        refine N3.out.mono ?_
        rintro e w3 ⟨rfl, m3, hb3⟩
        have H3 := Lib.hid (H2.out.trans (hb3.mono S2.out))
        have S3 := Lib.hid (Nat.le_trans S2.out hb3.size)
        have N := great_mine HC.out m3
        rw [← Hm.out] at N
        have N4 := Lib.hid N
        clear N N3 m3 hb3 H2 S2
        go_wp2_with fail
        refine N4.out.mono ?_
        rintro e w4 ⟨rfl, m4, hb4⟩
        have H4 := Lib.hid (H3.out.trans (hb4.mono S3.out))
        have S4 := Lib.hid (Nat.le_trans S3.out hb4.size)
        have N := take_mine HC.out m4 S4.out (k : Int) (by unfold I64; omega)
        rw [ht.out] at N
        have N5 := Lib.hid N
        clear N N4 m4 hb4 H3 S3
        go_wp2_with fail
        refine N5.out.mono ?_
        rintro e w5 ⟨rfl, m5, hb5⟩
        have H5 := Lib.hid (H4.out.trans hb5)
        have S5 := Lib.hid (Nat.le_trans S4.out hb5.size)
        have N := free_mine HC.out m5
        rw [← Hu.out] at N
        have N6 := Lib.hid N
        clear N N5 m5 hb5 H4 S4
        go_wp2_with fail
        refine N6.out.mono ?_
        rintro e w6 ⟨rfl, m6, hb6⟩
        have H6 := Lib.hid (H5.out.trans (hb6.mono S5.out))
        have S6 := Lib.hid (Nat.le_trans S5.out hb6.size)
        clear m6 hb6 N6 H5 S5
        go_wp2_with fail
        go_ret
        exact ⟨rfl, H6.out⟩
      | some r =>
        obtain ⟨ht, hfk, hmk, hgk⟩ := Rn.take_back hk1 hW
        have hrl := Rn.list_end G r (List.mem_of_find?_eq_some hW)
        have hx1 : x = (r.1 : Int) := by rw [hxx, hW]; rfl
        have hr4 : r.1 ≤ 400 := by have := HGl.out; omega
        clear hxx hrl
        obtain ⟨p, hp⟩ : ∃ p, p = r.1 := ⟨_, rfl⟩
        rw [← hp] at ht hfk hmk hgk hx1 hr4
        clear hp
        subst hx1
        have yx : decide ((p : Int) < 0) = false := by rw [decide_eq_false_iff_not]; omega
        obtain ⟨E, hE⟩ : ∃ E, E = Rn.setN G p false k := ⟨_, rfl⟩
        rw [← hE] at ht hfk hmk hgk
        obtain ⟨u', hu'⟩ : ∃ u', u' = Rn.freeN E := ⟨_, rfl⟩
        rw [← hu', ← Hu.out] at hfk
        have Hu' := Lib.hid hu'
        have hus : (u : Int) - (k : Int) = (u' : Int) := by omega
        have HUS := Lib.hid hus
        have ht := Lib.hid ht
        have Hmk := Lib.hid hmk
        have Hgk := Lib.hid hgk
        clear hE hu' hus hmk hgk
        clear hW HB
        go_wp2_with fail
        refine N2.out.mono ?_
        rintro e w2 ⟨rfl, m2, hb2⟩
        have S2 := Lib.hid (Nat.le_trans Sr.out hb2.size)
        have H2 := Lib.hid (HBB.out.trans hb2)
        have N := free_mine HC.out m2
        rw [← Hu.out] at N
        have N3 := Lib.hid N
        clear N N2 m2 hb2 HBB Sr
        go_wp2_with fail
        refine N3.out.mono ?_
        rintro e w3 ⟨rfl, m3, hb3⟩
        have H3 := Lib.hid (H2.out.trans (hb3.mono S2.out))
        have S3 := Lib.hid (Nat.le_trans S2.out hb3.size)
        have N := great_mine HC.out m3
        rw [← Hm.out] at N
        have N4 := Lib.hid N
        clear N N3 m3 hb3 H2 S2
        go_wp2_with fail
        refine N4.out.mono ?_
        rintro e w4 ⟨rfl, m4, hb4⟩
        have H4 := Lib.hid (H3.out.trans (hb4.mono S3.out))
        have S4 := Lib.hid (Nat.le_trans S3.out hb4.size)
        have N := take_mine HC.out m4 S4.out (k : Int) (by unfold I64; omega)
        rw [ht.out] at N
        have N5 := Lib.hid N
        clear N N4 m4 hb4 H3 S3
        go_wp2_with fail
        refine N5.out.mono ?_
        rintro e w5 ⟨rfl, m5, hb5⟩
        have H5 := Lib.hid (H4.out.trans hb5)
        have S5 := Lib.hid (Nat.le_trans S4.out hb5.size)
        have N := free_mine HC.out m5
        rw [← Hu'.out] at N
        have N6 := Lib.hid N
        clear N N5 m5 hb5 H4 S4
        go_wp2_with fail
        refine N6.out.mono ?_
        rintro e w6 ⟨rfl, m6, hb6⟩
        have H6 := Lib.hid (H5.out.trans (hb6.mono S5.out))
        have S6 := Lib.hid (Nat.le_trans S5.out hb6.size)
        have N := mark_mine HC.out m6 S6.out (p : Int) 1 (by unfold I64; omega) (by unfold I64; omega)
        rw [Hmk.out] at N
        have N7 := Lib.hid N
        clear N m6 hb6 N6 H5 S5
        go_wp2_with fail
        refine N7.out.mono ?_
        rintro e w7 ⟨rfl, m7, hb7⟩
        have H7 := Lib.hid (H6.out.trans hb7)
        have S7 := Lib.hid (Nat.le_trans S6.out hb7.size)
        have N := give_mine HC.out m7 S7.out (p : Int) (k : Int) (by unfold I64; omega) (by unfold I64; omega)
        rw [Hgk.out] at N
        have N8 := Lib.hid N
        clear N m7 hb7 N7 H6 S6
        go_wp2_with fail
        refine N8.out.mono ?_
        rintro e w8 ⟨rfl, m8, hb8⟩
        have H8 := Lib.hid (H7.out.trans hb8)
        have S8 := Lib.hid (Nat.le_trans S7.out hb8.size)
        have N := free_mine HC.out m8
        rw [← Hu.out] at N
        have N9 := Lib.hid N
        clear N m8 hb8 N8 H7 S7
        go_wp2_with fail
        refine N9.out.mono ?_
        rintro e w9 ⟨rfl, m9, hb9⟩
        have H9 := Lib.hid (H8.out.trans (hb9.mono S8.out))
        clear m9 hb9 N9 H8 S8
        go_wp2_with fail
        go_ret
        exact ⟨rfl, H9.out⟩
end Go.Proofs.Ytdbgappaoeopbaa
