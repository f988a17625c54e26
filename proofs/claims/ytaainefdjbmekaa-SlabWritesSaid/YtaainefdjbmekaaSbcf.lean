/- The program's free: what a predicate holds of is given back to the map and forgotten. -/
import Derived.Test.YtaainefdjbmekaaSbce
import Derived.Deep.RegionHeldLaw
namespace Go.Proofs.Ytaainefdjbmekaa
open Go.RowKit
section
variable {w w1 w2 w3 : World} {g gs B : Nat} {X Xr : Nat → Prop} {F G : List Bool} {l r : List Sk.K} {v v2 : Value}
/-- A row of the program's runs lies in no block of the map. -/
theorem ownK_map (h : OwnK w B v2 r) (hm : RepP w g Xr F) {b : Nat} (hb : v2.ownBlock = some b) : ¬ Xr b := fun hX => by
  obtain ⟨cur, hcur⟩ : ∃ cur, Blk w b 84 cur := by
    rcases h.2 with ⟨h', _⟩ | ⟨g2, cap, cur, h', _, hg2, _⟩
    · subst h'; cases hb
    · subst h'; injection hb with hb; subst hb; exact ⟨cur, hg2⟩
  rcases hm.typ hX hcur with h | h <;> exact absurd h (by decide)
/-- The map changed beside the counts. -/
theorem smap_op (h : RepSV w g gs X Xr F l v) (ho : OpR RepP g Xr G w w1) : ∃ X' Xr', RepSV w1 g gs X' Xr' G l v ∧ (∀ b, Xr' b → Xr b ∨ w.heap.size ≤ b) ∧ (∀ b, X' b → X b ∨ w.heap.size ≤ b) ∧ Chg Xr w w1 := by
  obtain ⟨Xr', h1, h2, h3⟩ := ho
  refine ⟨fun b => Xr' b ∨ b = gs ∨ v.ownBlock = some b, Xr', ⟨h.blk.keep (h3.block gs h.blk.lt h.gs_ne), own_keep h.row fun b hb hlt => h3.block b hlt (h.row_ne hb).2, h1, h.asc, fun _ => Iff.rfl⟩, h2, fun b hb => ?_, h3⟩
  rcases hb with hb | rfl | hb
  · exact (h2 b hb).imp (fun h' => (h.at_ b).2 (.inl h')) id
  · exact .inl ((h.at_ b).2 (.inr (.inl rfl)))
  · exact .inl ((h.at_ b).2 (.inr (.inr hb)))
/-- free half way: the first k runs are done, vr holds those that stay. -/
structure FreeI (w wr : World) (g gs : Nat) (X : Nat → Prop) (F : List Bool) (l : List Sk.K) (v : Value) (p : Sk.K → Bool) (k : Nat) (vr : Value) : Prop where
  sv : ∃ Xk Xrk, RepSV wr g gs Xk Xrk (Sk.gone p F (l.take k)) l v ∧ (∀ b, Xk b → X b ∨ w.heap.size ≤ b)
  rest : OwnK wr w.heap.size vr ((l.take k).filter fun x => !p x)
  chg : Chg X w wr
  old : ∀ b, v.ownBlock = some b → b < w.heap.size
variable {wr : World} {p : Sk.K → Bool} {k : Nat} {vr : Value}
theorem FreeI.start (h : RepSV w g gs X Xr F l v) : FreeI w w g gs X F l v p 0 (.slice none 0 0) :=
  ⟨⟨X, Xr, by unfold Sk.gone; exact h, fun _ hb => .inl hb⟩, World.ownsRow_nil _ _ _ _, Chg.refl _ _, fun b hb => (h.row.lt b hb).2⟩
theorem FreeI.below (h : FreeI w wr g gs X F l v p k vr) (hb : Below wr.heap.size wr w2) : FreeI w w2 g gs X F l v p k vr := by
  obtain ⟨Xk, Xrk, h1, h2⟩ := h.sv
  exact ⟨⟨Xk, Xrk, h1.below hb, h2⟩, own_keep h.rest fun b _ hlt => hb.block b hlt, h.chg.trans (Chg.of_below _ hb), h.old⟩
theorem FreeI.give (h : FreeI w wr g gs X F l v p k vr) (hk : k < l.length) (hp : p (Sk.at_ l k) = true) {a n : Int} (ha : a = ((Sk.at_ l k).1 : Int)) (hn : n = ((Sk.at_ l k).2.1 : Int)) (hI : I64 a) (hN : I64 n) :
    Calls Try.prog 56 #[.pointer (some ⟨g, 0, none⟩), .int .i64 a, .int .i64 n] wr fun e w' => (∃ b, e = .returned (.bool b)) ∧ FreeI w w' g gs X F l v p (k + 1) vr ∧ ∀ b cs, Blk wr b 84 cs → Blk w' b 84 cs := by
  obtain ⟨Xk, Xrk, h1, h2⟩ := h.sv
  refine (runs0.give h1.map a n hI hN).mono ?_
  rintro e w' ⟨rfl, ho⟩
  obtain ⟨X', Xr', s1, s2, s3, s4⟩ := smap_op h1 ho
  have e1 : (Rn.give (Sk.gone p F (l.take k)) a n).2 = Sk.gone p F (l.take (k + 1)) := by rw [Sk.gone_next p F hk, if_pos hp, ha, hn]
  have e2 : (l.take (k + 1)).filter (fun x => !p x) = (l.take k).filter fun x => !p x := by
    rw [Sk.filter_next _ hk, if_neg (by simp [hp]), List.append_nil]
  refine ⟨⟨_, rfl⟩, ⟨⟨X', Xr', by rw [← e1]; exact s1, fun b hb => ?_⟩, by rw [e2]; exact own_keep h.rest fun b hb hlt => s4.block b hlt (ownK_map h.rest h1.map hb), ?_, h.old⟩, fun b cs hbk => ?_⟩
  · rcases s3 b hb with h' | h'
    · exact h2 b h'
    · exact .inr (Nat.le_trans h.chg.size h')
  · refine ⟨s4.os.trans h.chg.os, s4.tape.trans h.chg.tape, s4.output.trans h.chg.output, Nat.le_trans h.chg.size s4.size, fun b hb hX => ?_⟩
    rw [s4.block b (Nat.lt_of_lt_of_le hb h.chg.size) fun hX' => ?_]
    · exact h.chg.block b hb hX
    · rcases h2 b ((h1.at_ b).2 (.inl hX')) with h' | h'
      · exact hX h'
      · omega
  · refine hbk.keep (s4.block b hbk.lt fun hX => ?_)
    rcases h1.map.typ hX hbk with e | e <;> exact absurd e (by decide)
theorem FreeI.keep1 (h : FreeI w wr g gs X F l v p k vr) (hk : k < l.length) (hp : p (Sk.at_ l k) = false) {vr' : Value} (hr : w2.ownsRow w.heap.size 84 4 vr' (((l.take k).filter fun x => !p x).length + 1) (kcs ((l.take k).filter fun x => !p x) ++ kcs [Sk.at_ l k])) (hg : wr.grownBy w2 vr.ownBlock) : FreeI w w2 g gs X F l v p (k + 1) vr' := by
  obtain ⟨Xk, Xrk, h1, h2⟩ := h.sv
  have e1 : Sk.gone p F (l.take (k + 1)) = Sk.gone p F (l.take k) := by rw [Sk.gone_next p F hk, if_neg (by simp [hp])]
  have e2 : (l.take (k + 1)).filter (fun x => !p x) = ((l.take k).filter fun x => !p x) ++ [Sk.at_ l k] := by
    rw [Sk.filter_next _ hk, if_pos (by simp [hp])]
  have hnew : ∀ b, vr.ownBlock = some b → w.heap.size ≤ b := fun b hb => (h.rest.lt b hb).1
  have hout : ∀ b, Xk b → vr.ownBlock ≠ some b := fun b hX e => by
    rcases (h1.at_ b).1 hX with hX | rfl | hX
    · exact ownK_map h.rest h1.map e hX
    · exact absurd (own_typ h.rest e h1.blk) (by decide)
    · have := hnew b e
      have := h.old b hX
      omega
  refine ⟨⟨Xk, Xrk, by rw [e1]; exact h1.keep fun b hX => hg.block b (h1.lt hX) (fun e => hout b hX e.symm), h2⟩, ?_, h.chg.grown hg fun k hk => .inr (hnew k hk), h.old⟩
  rw [e2]
  show World.ownsRow _ _ _ _ _ _ _
  rw [List.length_append, kcs_app]
  exact hr
/-- What free leaves. -/
def FreeR (w : World) (g gs : Nat) (X : Nat → Prop) (F : List Bool) (l : List Sk.K) (p : Sk.K → Bool) (w' : World) : Prop :=
  ∃ X' Xr' v', RepSV w' g gs X' Xr' (Sk.gone p F l) (l.filter fun x => !p x) v' ∧ (∀ b, X' b → X b ∨ w.heap.size ≤ b) ∧ Chg X w w'
theorem FreeI.done (h : FreeI w wr g gs X F l v p l.length vr) (hX : X gs) : wr.cell? ⟨gs, 1, none⟩ = some v ∧ wr.frozen? ⟨gs, 1, none⟩ = false ∧ FreeR w g gs X F l p (wr.setCell ⟨gs, 1, none⟩ vr) := by
  obtain ⟨Xk, Xrk, h1, h2⟩ := h.sv
  have hrest := h.rest
  rw [List.take_length] at h1 hrest
  have hne : vr.ownBlock ≠ some gs := fun e => absurd (own_typ hrest e h1.blk) (by decide)
  refine ⟨h1.blk.cell 1, h1.blk.frozen 1, fun b => Xrk b ∨ b = gs ∨ vr.ownBlock = some b, Xrk, vr, ⟨h1.blk.set_ 1 vr, own_far (World.ownsRow_base hrest (Nat.zero_le _)) hne vr, runs0.keep h1.map fun b hX' => Below.heap_setCell wr ⟨gs, 1, none⟩ vr b (fun e => h1.gs_ne (by have e : b = gs := e; rw [← e]; exact hX')), List.Pairwise.sublist List.filter_sublist h1.asc, fun _ => Iff.rfl⟩, fun b hb => ?_, h.chg.setCell (p := ⟨gs, 1, none⟩) (.inl hX) vr⟩
  rcases hb with hb | rfl | hb
  · exact h2 b ((h1.at_ b).2 (.inl hb))
  · exact .inl hX
  · exact .inr (hrest.lt b hb).1
theorem FreeI.cells (h : FreeI w wr g gs X F l v p k vr) : OwnK wr 0 v l ∧ wr.cell? ⟨gs, 0, none⟩ = some (.pointer (some ⟨g, 0, none⟩)) ∧ wr.cell? ⟨gs, 1, none⟩ = some v := by
  obtain ⟨Xk, Xrk, h1, h2⟩ := h.sv
  exact ⟨h1.row, h1.blk.cell 0, h1.blk.cell 1⟩
end
section
variable {w : World} {g gs : Nat} {X Xr : Nat → Prop} {F : List Bool} {l : List Sk.K} {v : Value}
theorem sl_fourK {w : World} {a b c d : Value} {t : TypeId} : Sl (w.alloc (.cells #[a, b, c, d] t)) (w.heap.size + 1) (some ⟨w.heap.size, 0, none⟩) [a, b, c, d] := .inr ⟨w.heap.size, 0, rfl, by omega, fun i hi => by
  have : i < 4 := hi
  have : i = 0 ∨ i = 1 ∨ i = 2 ∨ i = 3 := by omega
  rcases this with rfl | rfl | rfl | rfl <;> exact (Blk.new w t _).cell _⟩
set_option maxRecDepth 8000 in
set_option maxHeartbeats 8000000 in
theorem sfree_late (h : RepSV w g gs X Xr F l v) (hk : KB l) :
    Calls Try.prog 33 #[.pointer (some ⟨gs, 0, none⟩), .func (.func 37) #[] #[]] w fun e w' => e = .returned (.int .i64 (Sk.sumN Sk.isL l : Int)) ∧ FreeR w g gs X F l Sk.isL w' := by
  obtain ⟨i0, hi0, hz0, hs0, hb0⟩ := share_parts
  have eg : ∀ a (W : World), (callFunc 37 a).run Try.prog W = .ok (.enter 37 a) W := fun a W => by kernel_rfl
  have HK := Lib.hid hk
  have hXg := Lib.hid ((h.at_ gs).2 (.inr (.inl rfl)))
  obtain ⟨q, hq⟩ : ∃ q, q = l.length := ⟨_, rfl⟩
  have Hq := Lib.hid hq
  have hq5 : q ≤ 100000 := by rw [hq]; exact hk.few
  obtain ⟨A, c, rfl, -, -⟩ := ownK_slice h.row
  have S0 := Lib.hid (FreeI.start (p := Sk.isL) h)
  have kc : w.cell? ⟨gs, 1, none⟩ = some (.slice A q c) := by rw [hq]; exact h.blk.cell 1
  have Sm := Lib.hid (Sk.sumN_few Sk.isL (l := l) (M := 1000000) fun x hx => by
    obtain ⟨i, hi, rfl⟩ := List.mem_iff_getElem.1 hx
    have := (hk.at_ i).2.1
    rw [Sk.at_eq hi] at this
    exact this)
  clear h hk hq
  go_enter Try.func33, Try.ntmps33
  go_wp2_with fail
  clear kc
  go_loopw [5, 6, 14] (fun v5 v6 v14 wr => ∃ (k : Nat) (vr : Value), vr = v6 ∧ v14 = .int .i64 (k : Int) ∧ k ≤ q ∧ v5 = .int .i64 ((Sk.sumN Sk.isL (l.take k) : Nat) : Int) ∧ FreeI w wr g gs X F l (.slice A l.length c) Sk.isL k vr) (fun _ _ v14 _ => q - (intOf v14).toNat)
  case atStart => exact ⟨0, _, rfl, rfl, Nat.zero_le _, rfl, S0.out⟩
  case round =>
    obtain ⟨k, v6, rfl, rfl, hkq, rfl, hI⟩ := hrel
    have HI := Lib.hid hI
    obtain ⟨hrow, hg0, hg1⟩ := hI.cells
    rw [← Hq.out] at hg1
    by_cases hiq : k < q
    · have hkl : k < l.length := by rw [← Hq.out]; exact hiq
      have z0 : decide ((k : Int) < (q : Int)) = true := by rw [decide_eq_true_eq]; omega
      have z0' : decide (k < q) = true := by rw [decide_eq_true_eq]; exact hiq
      have hki : (k : Int) < (q : Int) := by omega
      obtain ⟨gl, c', hv, -, -, hcell⟩ := ownK_at hrow (by omega)
      injection hv with hA hw1 hw2
      subst hA
      obtain ⟨e1, e2, e3, e4⟩ := hcell k hkl
      have nx := Sk.sumN_next Sk.isL hkl
      have sm := Sm.out k
      rw [← Hq.out] at sm
      have hb9 := HK.out.at_ k
      obtain ⟨x1, hx1⟩ : ∃ x, x = (Sk.at_ l k).1 := ⟨_, rfl⟩
      obtain ⟨x2, hx2⟩ : ∃ x, x = (Sk.at_ l k).2.1 := ⟨_, rfl⟩
      obtain ⟨x3, hx3⟩ : ∃ x, x = (Sk.at_ l k).2.2.1 := ⟨_, rfl⟩
      obtain ⟨x4, hx4⟩ : ∃ x, x = (Sk.at_ l k).2.2.2 := ⟨_, rfl⟩
      have hx : Sk.at_ l k = (x1, x2, x3, x4) := by rw [hx1, hx2, hx3, hx4]
      rw [← hx1] at e1 hb9
      rw [← hx2] at e2 hb9
      rw [← hx3] at e3
      rw [← hx4] at e4
      rw [hx] at nx
      dsimp only at nx
      have x19 : x1 ≤ 1000000 := hb9.1
      have x29 : x2 ≤ 1000000 := hb9.2.1
      obtain ⟨S, hS⟩ : ∃ S, S = Sk.sumN Sk.isL (l.take k) := ⟨_, rfl⟩
      rw [← hS] at nx sm ⊢
      have hS9 : S ≤ 100000000000 := by omega
      obtain ⟨b, hbb⟩ : ∃ b, wr.heap.size = b := ⟨_, rfl⟩
      obtain ⟨W, hW⟩ : ∃ W, wr.alloc (.cells #[.int .i64 (x1 : Int), .int .i64 (x2 : Int), .int .i64 (x3 : Int), .int .i64 (x4 : Int)] 84) = W := ⟨_, rfl⟩
      have BX := Lib.hid (show Blk W b 84 #[.int .i64 (x1 : Int), .int .i64 (x2 : Int), .int .i64 (x3 : Int), .int .i64 (x4 : Int)] by rw [← hW, ← hbb]; exact Blk.new _ _ _)
      have y1 : W.cell? ⟨b, 0, none⟩ = some (.int .i64 (x1 : Int)) := BX.out.cell 0
      have y2 : W.cell? ⟨b, 1, none⟩ = some (.int .i64 (x2 : Int)) := BX.out.cell 1
      have y3 : W.cell? ⟨b, 2, none⟩ = some (.int .i64 (x3 : Int)) := BX.out.cell 2
      have y4 : W.cell? ⟨b, 3, none⟩ = some (.int .i64 (x4 : Int)) := BX.out.cell 3
      have IW := Lib.hid (HI.out.below (w2 := W) (by rw [← hW]; exact (Below.refl _ _).alloc (Nat.le_refl _) _))
      have NP : ∀ t : Bool, Sk.isL (x1, x2, x3, x4) = t → Hid (Calls Try.prog 37 #[.agg #[.int .i64 (x1 : Int), .int .i64 (x2 : Int), .int .i64 (x3 : Int), .int .i64 (x4 : Int)]] W fun e w' => e = .returned (.bool t) ∧ Below W.heap.size W w') := fun t ht => by subst ht; exact Lib.hid (klate_any x1 x2 x3 x4 W)
      have Hkl := Lib.hid hkl
      have Hx := Lib.hid hx
      clear hw1 hw2 hcell hx1 hx2 hx3 hx4 hx hb9 hS hI hrow hkl sm
      by_cases hbl : Sk.isL (x1, x2, x3, x4) = true
      · rw [if_pos hbl] at nx
        have Hp := Lib.hid (show Sk.isL (Sk.at_ l k) = true by rw [Hx.out]; exact hbl)
        have NP := NP true hbl
        obtain ⟨S2, hS2⟩ : ∃ S2, S2 = S + x2 := ⟨_, rfl⟩
        rw [← hS2] at nx
        have Nx := Lib.hid nx
        have s1 : (S : Int) + (x2 : Int) = (S2 : Int) := by omega
        have hS29 : S2 ≤ 200000000000 := by omega
        clear nx hbl hS2
        have NG := Lib.hid (fun (w2 : World) (h2 : Below W.heap.size W w2) => show Calls Try.prog 56 #[.pointer (some ⟨g, 0, none⟩), .int .i64 (x1 : Int), .int .i64 (x2 : Int)] w2 fun e w' => ∃ t, e = .returned (.bool t) ∧ w'.cell? ⟨b, 1, none⟩ = some (.int .i64 (x2 : Int)) ∧ FreeI w w' g gs X F l (.slice (some ⟨gl, 0, none⟩) l.length c) Sk.isL (k + 1) v6 from by
          refine ((IW.out.below h2).give Hkl.out Hp.out (by rw [Hx.out]) (by rw [Hx.out]) (by unfold I64; omega) (by unfold I64; omega)).mono ?_
          rintro e w' ⟨⟨t, rfl⟩, h3, h4⟩
          exact ⟨t, rfl, (h4 b _ (BX.out.keep (h2.block b BX.out.lt))).cell 1, h3⟩)
        have Hg0 := Lib.hid (fun (w2 : World) (h2 : Below W.heap.size W w2) => ((IW.out.below h2).cells).2.1)
        go_upto_region 7 with (go_at_fn 37; refine NP.out.mono ?_; rintro e w2 ⟨rfl, h2⟩)
        have g2 := Hg0.out w2 h2
        have u1 : w2.cell? ⟨b, 0, none⟩ = some (.int .i64 (x1 : Int)) := (h2.cell (p := ⟨b, 0, none⟩) BX.out.lt).trans y1
        have u2 : w2.cell? ⟨b, 1, none⟩ = some (.int .i64 (x2 : Int)) := (h2.cell (p := ⟨b, 1, none⟩) BX.out.lt).trans y2
        have NG2 := Lib.hid (NG.out w2.drew h2.drew)
        clear h2 NG Hg0 y1 y2 y3 y4 e1 e2 e3 e4
        go_region_with (go_at_call 56; ((with_reducible refine NG2.out.mono ?_); rintro e3 w3 ⟨t3, rfl, u3, h3⟩; have H3 := Lib.hid h3; clear h3))
        all_goals
          go_wp2_with fail
          go_roundw
          case rel => exact ⟨k + 1, _, rfl, by go_num, by omega, by rw [Nx.out], H3.out⟩
          case measure => simp [intOf]; omega
      · rw [if_neg hbl] at nx
        have Nx := Lib.hid nx
        have hbf : Sk.isL (x1, x2, x3, x4) = false := by simpa using hbl
        have Hp := Lib.hid (show Sk.isL (Sk.at_ l k) = false by rw [Hx.out]; exact hbf)
        have NP := NP false hbf
        clear nx hbl hbf
        obtain ⟨r, hr⟩ : ∃ r, r = (l.take k).filter fun x => !(Sk.isL) x := ⟨_, rfl⟩
        have Hr := Lib.hid hr
        have hr5 : r.length ≤ 100000 := by
          rw [hr]
          have h1 := List.length_filter_le (fun x => !(Sk.isL) x) (l.take k)
          rw [List.length_take] at h1
          omega
        have Own := Lib.hid (show OwnK W w.heap.size v6 r by rw [hr]; exact IW.out.rest)
        obtain ⟨A6, c6, rfl, -, -⟩ := ownK_slice Own.out
        obtain ⟨m, hm⟩ : ∃ m, m = r.length := ⟨_, rfl⟩
        have Hm := Lib.hid hm
        clear hr hm
        go_wp2_with (first
          | (go_at_fn 37; refine NP.out.mono ?_; rintro e w2 ⟨rfl, h2⟩; have I2 := Lib.hid (IW.out.below h2); have u1 : w2.cell? ⟨b, 0, none⟩ = some (.int .i64 (x1 : Int)) := (h2.cell (p := ⟨b, 0, none⟩) BX.out.lt).trans y1; have u2 : w2.cell? ⟨b, 1, none⟩ = some (.int .i64 (x2 : Int)) := (h2.cell (p := ⟨b, 1, none⟩) BX.out.lt).trans y2; have u3 : w2.cell? ⟨b, 2, none⟩ = some (.int .i64 (x3 : Int)) := (h2.cell (p := ⟨b, 2, none⟩) BX.out.lt).trans y3; have u4 : w2.cell? ⟨b, 3, none⟩ = some (.int .i64 (x4 : Int)) := (h2.cell (p := ⟨b, 3, none⟩) BX.out.lt).trans y4; have Iz := Lib.hid (I2.out.below (w2 := w2.alloc (.cells #[.int .i64 (x1 : Int), .int .i64 (x2 : Int), .int .i64 (x3 : Int), .int .i64 (x4 : Int)] 84)) ((Below.refl _ _).alloc (Nat.le_refl _) _)); have Oz := Lib.hid (show OwnK (w2.alloc (.cells #[.int .i64 (x1 : Int), .int .i64 (x2 : Int), .int .i64 (x3 : Int), .int .i64 (x4 : Int)] 84)) w.heap.size (.slice A6 r.length c6) r by rw [Hr.out]; rw [Hr.out] at Iz; exact Iz.out.rest); clear h2)
          | (at_builtin; refine wpList_append_sls (base := w.heap.size) _ rfl (.tmp 37) (.tmp 39) _ rfl Try.underlying85 hi0 hz0 hs0 hb0 rfl (by decide) rfl Oz.out (m := 1) (news := [.int .i64 (x1 : Int), .int .i64 (x2 : Int), .int .i64 (x3 : Int), .int .i64 (x4 : Int)]) rfl rfl (by simp) (Nat.le_refl _) sl_fourK (by simp [Value.oneCell']) (by unfold maxLen; omega) (by omega) Iz.out.chg.size ?_; intro v8 w8 k1 k2 _; have I8 := Lib.hid (Iz.out.keep1 Hkl.out Hp.out (by rw [← Hr.out, Hx.out]; exact k1) k2); clear k1 k2))
        go_roundw
        case rel => exact ⟨k + 1, _, rfl, by go_num, by omega, by rw [Nx.out, Nat.add_zero], I8.out⟩
        case measure => simp [intOf]; omega
    · have hiq' : k = q := by omega
      subst hiq'
      have z0 : decide ((k : Int) < (k : Int)) = false := by simp
      have z0' : decide (k < k) = false := by simp
      obtain ⟨A6, c6, rfl⟩ := own_slice HI.out.rest
      generalize ((l.take k).filter fun x => !(Sk.isL) x).length = m at *
      have hI2 := HI.out
      have hkl : k = l.length := Hq.out
      rw [hkl] at hI2
      obtain ⟨d1, d2, d3⟩ := hI2.done hXg.out
      have Fin := Lib.hid d3
      have Hs := Lib.hid (show Sk.sumN Sk.isL (l.take k) = Sk.sumN Sk.isL l by rw [hkl, List.take_length])
      clear hI hI2 hrow hg0 hkl d3 d1
      go_wp2_with fail
      go_ret
      exact ⟨by rw [Hs.out]; rfl, Fin.out⟩
set_option maxRecDepth 8000 in
set_option maxHeartbeats 8000000 in
theorem sfree_added (h : RepSV w g gs X Xr F l v) (hk : KB l) :
    Calls Try.prog 33 #[.pointer (some ⟨gs, 0, none⟩), .func (.func 34) #[] #[]] w fun e w' => e = .returned (.int .i64 (Sk.sumN Sk.isA l : Int)) ∧ FreeR w g gs X F l Sk.isA w' := by
  obtain ⟨i0, hi0, hz0, hs0, hb0⟩ := share_parts
  have eg : ∀ a (W : World), (callFunc 34 a).run Try.prog W = .ok (.enter 34 a) W := fun a W => by kernel_rfl
  have HK := Lib.hid hk
  have hXg := Lib.hid ((h.at_ gs).2 (.inr (.inl rfl)))
  obtain ⟨q, hq⟩ : ∃ q, q = l.length := ⟨_, rfl⟩
  have Hq := Lib.hid hq
  have hq5 : q ≤ 100000 := by rw [hq]; exact hk.few
  obtain ⟨A, c, rfl, -, -⟩ := ownK_slice h.row
  have S0 := Lib.hid (FreeI.start (p := Sk.isA) h)
  have kc : w.cell? ⟨gs, 1, none⟩ = some (.slice A q c) := by rw [hq]; exact h.blk.cell 1
  have Sm := Lib.hid (Sk.sumN_few Sk.isA (l := l) (M := 1000000) fun x hx => by
    obtain ⟨i, hi, rfl⟩ := List.mem_iff_getElem.1 hx
    have := (hk.at_ i).2.1
    rw [Sk.at_eq hi] at this
    exact this)
  clear h hk hq
  go_enter Try.func33, Try.ntmps33
  go_wp2_with fail
  clear kc
  go_loopw [5, 6, 14] (fun v5 v6 v14 wr => ∃ (k : Nat) (vr : Value), vr = v6 ∧ v14 = .int .i64 (k : Int) ∧ k ≤ q ∧ v5 = .int .i64 ((Sk.sumN Sk.isA (l.take k) : Nat) : Int) ∧ FreeI w wr g gs X F l (.slice A l.length c) Sk.isA k vr) (fun _ _ v14 _ => q - (intOf v14).toNat)
  case atStart => exact ⟨0, _, rfl, rfl, Nat.zero_le _, rfl, S0.out⟩
  case round =>
    obtain ⟨k, v6, rfl, rfl, hkq, rfl, hI⟩ := hrel
    have HI := Lib.hid hI
    obtain ⟨hrow, hg0, hg1⟩ := hI.cells
    rw [← Hq.out] at hg1
    by_cases hiq : k < q
    · have hkl : k < l.length := by rw [← Hq.out]; exact hiq
      have z0 : decide ((k : Int) < (q : Int)) = true := by rw [decide_eq_true_eq]; omega
      have z0' : decide (k < q) = true := by rw [decide_eq_true_eq]; exact hiq
      have hki : (k : Int) < (q : Int) := by omega
      obtain ⟨gl, c', hv, -, -, hcell⟩ := ownK_at hrow (by omega)
      injection hv with hA hw1 hw2
      subst hA
      obtain ⟨e1, e2, e3, e4⟩ := hcell k hkl
      have nx := Sk.sumN_next Sk.isA hkl
      have sm := Sm.out k
      rw [← Hq.out] at sm
      have hb9 := HK.out.at_ k
      obtain ⟨x1, hx1⟩ : ∃ x, x = (Sk.at_ l k).1 := ⟨_, rfl⟩
      obtain ⟨x2, hx2⟩ : ∃ x, x = (Sk.at_ l k).2.1 := ⟨_, rfl⟩
      obtain ⟨x3, hx3⟩ : ∃ x, x = (Sk.at_ l k).2.2.1 := ⟨_, rfl⟩
      obtain ⟨x4, hx4⟩ : ∃ x, x = (Sk.at_ l k).2.2.2 := ⟨_, rfl⟩
      have hx : Sk.at_ l k = (x1, x2, x3, x4) := by rw [hx1, hx2, hx3, hx4]
      rw [← hx1] at e1 hb9
      rw [← hx2] at e2 hb9
      rw [← hx3] at e3
      rw [← hx4] at e4
      rw [hx] at nx
      dsimp only at nx
      have x19 : x1 ≤ 1000000 := hb9.1
      have x29 : x2 ≤ 1000000 := hb9.2.1
      obtain ⟨S, hS⟩ : ∃ S, S = Sk.sumN Sk.isA (l.take k) := ⟨_, rfl⟩
      rw [← hS] at nx sm ⊢
      have hS9 : S ≤ 100000000000 := by omega
      obtain ⟨b, hbb⟩ : ∃ b, wr.heap.size = b := ⟨_, rfl⟩
      obtain ⟨W, hW⟩ : ∃ W, wr.alloc (.cells #[.int .i64 (x1 : Int), .int .i64 (x2 : Int), .int .i64 (x3 : Int), .int .i64 (x4 : Int)] 84) = W := ⟨_, rfl⟩
      have BX := Lib.hid (show Blk W b 84 #[.int .i64 (x1 : Int), .int .i64 (x2 : Int), .int .i64 (x3 : Int), .int .i64 (x4 : Int)] by rw [← hW, ← hbb]; exact Blk.new _ _ _)
      have y1 : W.cell? ⟨b, 0, none⟩ = some (.int .i64 (x1 : Int)) := BX.out.cell 0
      have y2 : W.cell? ⟨b, 1, none⟩ = some (.int .i64 (x2 : Int)) := BX.out.cell 1
      have y3 : W.cell? ⟨b, 2, none⟩ = some (.int .i64 (x3 : Int)) := BX.out.cell 2
      have y4 : W.cell? ⟨b, 3, none⟩ = some (.int .i64 (x4 : Int)) := BX.out.cell 3
      have IW := Lib.hid (HI.out.below (w2 := W) (by rw [← hW]; exact (Below.refl _ _).alloc (Nat.le_refl _) _))
      have NP : ∀ t : Bool, Sk.isA (x1, x2, x3, x4) = t → Hid (Calls Try.prog 34 #[.agg #[.int .i64 (x1 : Int), .int .i64 (x2 : Int), .int .i64 (x3 : Int), .int .i64 (x4 : Int)]] W fun e w' => e = .returned (.bool t) ∧ Below W.heap.size W w') := fun t ht => by subst ht; exact Lib.hid (kadded_any x1 x2 x3 x4 W)
      have Hkl := Lib.hid hkl
      have Hx := Lib.hid hx
      clear hw1 hw2 hcell hx1 hx2 hx3 hx4 hx hb9 hS hI hrow hkl sm
      by_cases hbl : Sk.isA (x1, x2, x3, x4) = true
      · rw [if_pos hbl] at nx
        have Hp := Lib.hid (show Sk.isA (Sk.at_ l k) = true by rw [Hx.out]; exact hbl)
        have NP := NP true hbl
        obtain ⟨S2, hS2⟩ : ∃ S2, S2 = S + x2 := ⟨_, rfl⟩
        rw [← hS2] at nx
        have Nx := Lib.hid nx
        have s1 : (S : Int) + (x2 : Int) = (S2 : Int) := by omega
        have hS29 : S2 ≤ 200000000000 := by omega
        clear nx hbl hS2
        have NG := Lib.hid (fun (w2 : World) (h2 : Below W.heap.size W w2) => show Calls Try.prog 56 #[.pointer (some ⟨g, 0, none⟩), .int .i64 (x1 : Int), .int .i64 (x2 : Int)] w2 fun e w' => ∃ t, e = .returned (.bool t) ∧ w'.cell? ⟨b, 1, none⟩ = some (.int .i64 (x2 : Int)) ∧ FreeI w w' g gs X F l (.slice (some ⟨gl, 0, none⟩) l.length c) Sk.isA (k + 1) v6 from by
          refine ((IW.out.below h2).give Hkl.out Hp.out (by rw [Hx.out]) (by rw [Hx.out]) (by unfold I64; omega) (by unfold I64; omega)).mono ?_
          rintro e w' ⟨⟨t, rfl⟩, h3, h4⟩
          exact ⟨t, rfl, (h4 b _ (BX.out.keep (h2.block b BX.out.lt))).cell 1, h3⟩)
        have Hg0 := Lib.hid (fun (w2 : World) (h2 : Below W.heap.size W w2) => ((IW.out.below h2).cells).2.1)
        go_upto_region 7 with (go_at_fn 34; refine NP.out.mono ?_; rintro e w2 ⟨rfl, h2⟩)
        have g2 := Hg0.out w2 h2
        have u1 : w2.cell? ⟨b, 0, none⟩ = some (.int .i64 (x1 : Int)) := (h2.cell (p := ⟨b, 0, none⟩) BX.out.lt).trans y1
        have u2 : w2.cell? ⟨b, 1, none⟩ = some (.int .i64 (x2 : Int)) := (h2.cell (p := ⟨b, 1, none⟩) BX.out.lt).trans y2
        have NG2 := Lib.hid (NG.out w2.drew h2.drew)
        clear h2 NG Hg0 y1 y2 y3 y4 e1 e2 e3 e4
        go_region_with (go_at_call 56; ((with_reducible refine NG2.out.mono ?_); rintro e3 w3 ⟨t3, rfl, u3, h3⟩; have H3 := Lib.hid h3; clear h3))
        all_goals
          go_wp2_with fail
          go_roundw
          case rel => exact ⟨k + 1, _, rfl, by go_num, by omega, by rw [Nx.out], H3.out⟩
          case measure => simp [intOf]; omega
      · rw [if_neg hbl] at nx
        have Nx := Lib.hid nx
        have hbf : Sk.isA (x1, x2, x3, x4) = false := by simpa using hbl
        have Hp := Lib.hid (show Sk.isA (Sk.at_ l k) = false by rw [Hx.out]; exact hbf)
        have NP := NP false hbf
        clear nx hbl hbf
        obtain ⟨r, hr⟩ : ∃ r, r = (l.take k).filter fun x => !(Sk.isA) x := ⟨_, rfl⟩
        have Hr := Lib.hid hr
        have hr5 : r.length ≤ 100000 := by
          rw [hr]
          have h1 := List.length_filter_le (fun x => !(Sk.isA) x) (l.take k)
          rw [List.length_take] at h1
          omega
        have Own := Lib.hid (show OwnK W w.heap.size v6 r by rw [hr]; exact IW.out.rest)
        obtain ⟨A6, c6, rfl, -, -⟩ := ownK_slice Own.out
        obtain ⟨m, hm⟩ : ∃ m, m = r.length := ⟨_, rfl⟩
        have Hm := Lib.hid hm
        clear hr hm
        go_wp2_with (first
          | (go_at_fn 34; refine NP.out.mono ?_; rintro e w2 ⟨rfl, h2⟩; have I2 := Lib.hid (IW.out.below h2); have u1 : w2.cell? ⟨b, 0, none⟩ = some (.int .i64 (x1 : Int)) := (h2.cell (p := ⟨b, 0, none⟩) BX.out.lt).trans y1; have u2 : w2.cell? ⟨b, 1, none⟩ = some (.int .i64 (x2 : Int)) := (h2.cell (p := ⟨b, 1, none⟩) BX.out.lt).trans y2; have u3 : w2.cell? ⟨b, 2, none⟩ = some (.int .i64 (x3 : Int)) := (h2.cell (p := ⟨b, 2, none⟩) BX.out.lt).trans y3; have u4 : w2.cell? ⟨b, 3, none⟩ = some (.int .i64 (x4 : Int)) := (h2.cell (p := ⟨b, 3, none⟩) BX.out.lt).trans y4; have Iz := Lib.hid (I2.out.below (w2 := w2.alloc (.cells #[.int .i64 (x1 : Int), .int .i64 (x2 : Int), .int .i64 (x3 : Int), .int .i64 (x4 : Int)] 84)) ((Below.refl _ _).alloc (Nat.le_refl _) _)); have Oz := Lib.hid (show OwnK (w2.alloc (.cells #[.int .i64 (x1 : Int), .int .i64 (x2 : Int), .int .i64 (x3 : Int), .int .i64 (x4 : Int)] 84)) w.heap.size (.slice A6 r.length c6) r by rw [Hr.out]; rw [Hr.out] at Iz; exact Iz.out.rest); clear h2)
          | (at_builtin; refine wpList_append_sls (base := w.heap.size) _ rfl (.tmp 37) (.tmp 39) _ rfl Try.underlying85 hi0 hz0 hs0 hb0 rfl (by decide) rfl Oz.out (m := 1) (news := [.int .i64 (x1 : Int), .int .i64 (x2 : Int), .int .i64 (x3 : Int), .int .i64 (x4 : Int)]) rfl rfl (by simp) (Nat.le_refl _) sl_fourK (by simp [Value.oneCell']) (by unfold maxLen; omega) (by omega) Iz.out.chg.size ?_; intro v8 w8 k1 k2 _; have I8 := Lib.hid (Iz.out.keep1 Hkl.out Hp.out (by rw [← Hr.out, Hx.out]; exact k1) k2); clear k1 k2))
        go_roundw
        case rel => exact ⟨k + 1, _, rfl, by go_num, by omega, by rw [Nx.out, Nat.add_zero], I8.out⟩
        case measure => simp [intOf]; omega
    · have hiq' : k = q := by omega
      subst hiq'
      have z0 : decide ((k : Int) < (k : Int)) = false := by simp
      have z0' : decide (k < k) = false := by simp
      obtain ⟨A6, c6, rfl⟩ := own_slice HI.out.rest
      generalize ((l.take k).filter fun x => !(Sk.isA) x).length = m at *
      have hI2 := HI.out
      have hkl : k = l.length := Hq.out
      rw [hkl] at hI2
      obtain ⟨d1, d2, d3⟩ := hI2.done hXg.out
      have Fin := Lib.hid d3
      have Hs := Lib.hid (show Sk.sumN Sk.isA (l.take k) = Sk.sumN Sk.isA l by rw [hkl, List.take_length])
      clear hI hI2 hrow hg0 hkl d3 d1
      go_wp2_with fail
      go_ret
      exact ⟨by rw [Hs.out]; rfl, Fin.out⟩
end
end Go.Proofs.Ytaainefdjbmekaa
