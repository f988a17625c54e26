/- The statement NodeMany. -/
import Derived.Test.YtdfelkkibolheaaNlf
import Derived.Test.YtdfelkkibolheaaNdv
namespace Go.Proofs.Ytdfelkkibolheaa
open Go.RowKit Vint

def mK (i : Nat) : List Int := (List.range i).map fun (j : Nat) => 10 * (j : Int)
def mR (c : Bool) (i : Nat) : List Nd.T3 := if c then List.replicate i (2, 1, 0) else []
def mG (c : Bool) (i : Nat) : List Int := if c then List.replicate i 1 else []
theorem mK_len (i : Nat) : (mK i).length = i := by unfold mK; rw [List.length_map, List.length_range]
theorem mK_next (i : Nat) : mK (i + 1) = mK i ++ [10 * (i : Int)] := by unfold mK; rw [List.range_succ, List.map_append]; rfl
theorem mK_at {i j : Nat} (h : j < i) : Nd.at_ (mK i) j = 10 * (j : Int) := by
  unfold Nd.at_ mK
  rw [List.getD_eq_getElem?_getD, List.getElem?_map, List.getElem?_range h]
  rfl
theorem mR_next (i : Nat) : mR true (i + 1) = mR true i ++ [(2, 1, 0)] := by unfold mR; rw [if_pos rfl, if_pos rfl, List.replicate_succ']
theorem mG_next (i : Nat) : mG true (i + 1) = mG true i ++ [1] := by unfold mG; rw [if_pos rfl, if_pos rfl, List.replicate_succ']
theorem mR_len (i : Nat) : (mR true i).length = i := by unfold mR; rw [if_pos rfl, List.length_replicate]
theorem mG_len (i : Nat) : (mG true i).length = i := by unfold mG; rw [if_pos rfl, List.length_replicate]
theorem mR_at {i j : Nat} (h : j < i) : Nd.t3 (mR true i) j = (2, 1, 0) := by
  unfold Nd.t3 mR
  rw [if_pos rfl, List.getD_eq_getElem?_getD, List.getElem?_replicate, if_pos h]
  rfl
theorem mG_at {i j : Nat} (h : j < i) : Nd.at_ (mG true i) j = 1 := by
  unfold Nd.at_ mG
  rw [if_pos rfl, List.getD_eq_getElem?_getD, List.getElem?_replicate, if_pos h]
  rfl
theorem mR_no (i : Nat) : mR false i = [] := rfl
theorem mG_no (i : Nat) : mG false i = [] := rfl
theorem mR_le (c : Bool) (i : Nat) : (mR c i).length ≤ i := by cases c with | false => exact Nat.zero_le _ | true => rw [mR_len]; exact Nat.le_refl _
theorem mG_le (c : Bool) (i : Nat) : (mG c i).length ≤ i := by cases c with | false => exact Nat.zero_le _ | true => rw [mG_len]; exact Nat.le_refl _
/-- The node of k keys. -/
def mN (h k : Nat) (z : Bool) : Nd.N := ⟨(h : Int), mK k, mR z k, mG z k, mR (!z) k⟩
theorem mN_ok {h k : Nat} {z : Bool} (hz : z = decide (h = 0)) (hk : k < 12) (h8 : h < 8) : Nd.Ok (mN h k z) ↔ (k ≤ 8 ∧ h < 6 ∧ (h = 0 ∨ 1 ≤ k)) := by
  constructor
  · intro o
    have e1 : k ≤ 8 := by have := o.few; unfold mN at this; rw [mK_len] at this; exact this
    have e2 : h < 6 := by have := o.h6; unfold mN at this; dsimp only at this; omega
    refine ⟨e1, e2, ?_⟩
    by_cases h0 : h = 0
    · exact .inl h0
    · right
      have := (o.inner (by unfold mN; dsimp only; omega)).2.1
      unfold mN at this
      dsimp only at this
      rw [mK_len] at this
      omega
  · rintro ⟨e1, e2, e3⟩
    refine ⟨by unfold mN; dsimp only; omega, by unfold mN; dsimp only; omega, by unfold mN; rw [mK_len]; exact e1, fun i hi => ?_, fun i hi => ?_, fun h0 => ?_, fun h0 => ?_⟩
    · unfold mN at hi ⊢
      dsimp only at hi ⊢
      rw [mK_len] at hi
      rw [mK_at hi]
      omega
    · unfold mN at hi ⊢
      dsimp only at hi ⊢
      rw [mK_len] at hi
      rw [mK_at hi, mK_at (show i < k by omega)]
      omega
    · have hz' : z = true := by rw [hz, decide_eq_true_eq]; unfold mN at h0; dsimp only at h0; omega
      subst hz'
      unfold mN
      dsimp only
      refine ⟨by rw [mR_len, mK_len], by rw [mG_len, mK_len], rfl, fun i hi => ?_⟩
      rw [mK_len] at hi
      rw [mR_at hi, mG_at hi]
      decide
    · have hz' : z = false := by rw [hz, decide_eq_false_iff_not]; unfold mN at h0; dsimp only at h0; omega
      subst hz'
      unfold mN
      dsimp only
      have hk1 : 1 ≤ k := by
        unfold mN at h0
        dsimp only at h0
        rcases e3 with e3 | e3
        · exact absurd e3 (by omega)
        · exact e3
      refine ⟨by show (mR true k).length = _; rw [mR_len, mK_len], by rw [mK_len]; exact hk1, rfl, rfl, fun i hi => ?_⟩
      rw [mK_len] at hi
      show Nd.KidOk (Nd.t3 (mR true k) i)
      rw [mR_at hi]
      decide
/-- With one element more in one list it is none. -/
theorem mN_not {h k : Nat} {z : Bool} (hz : z = decide (h = 0)) {n : Nd.N} (hn : n.h = (h : Int)) (hs : (n.ks.length = k + 1 ∧ n.ps = mR z k ∧ n.cs = mR (!z) k) ∨ (n.ks.length = k ∧ n.cs.length = (mR (!z) k).length + 1) ∨ (n.ks.length = k ∧ n.ps.length = (mR z k).length + 1) ∨ (n.ks.length = k ∧ n.gs.length = (mG z k).length + 1)) : ¬ Nd.Ok n := by
  intro o
  by_cases h0 : h = 0
  · have hz' : z = true := by rw [hz, decide_eq_true_eq]; exact h0
    subst hz'
    obtain ⟨a, b, c, -⟩ := o.leaf (by rw [hn]; omega)
    rcases hs with ⟨s1, s2, s3⟩ | ⟨s1, s2⟩ | ⟨s1, s2⟩ | ⟨s1, s2⟩
    · rw [s2, mR_len] at a; omega
    · rw [c] at s2; simp at s2
    · rw [mR_len] at s2; omega
    · rw [mG_len] at s2; omega
  · have hz' : z = false := by rw [hz, decide_eq_false_iff_not]; exact h0
    subst hz'
    obtain ⟨a, b, c, d, -⟩ := o.inner (by rw [hn]; omega)
    rcases hs with ⟨s1, s2, s3⟩ | ⟨s1, s2⟩ | ⟨s1, s2⟩ | ⟨s1, s2⟩
    · rw [s3] at a
      have : (mR (!false) k).length = k := mR_len k
      omega
    · have : (mR (!false) k).length = k := mR_len k
      omega
    · rw [c] at s2; simp at s2
    · rw [d] at s2; simp at s2
theorem NX.nd' {w : World} {xb H : Nat} {T TK : TypeId} {hh : Int} {ks gs : List Int} {ps cs : List Nd.T3} {v1 v2 v3 v4 : Value} (h : NX w xb H T TK hh ks ps gs cs v1 v2 v3 v4 v1 v2 v3 v4) : NdAt w w.heap.size (.agg #[.int .i64 hh, v1, v2, v3, v4]) ⟨hh, ks, ps, gs, cs⟩ := h.nd
/-- Loads under names. -/
def ldM2 : Op := Op.load 57 (.tmp 38)
def ldM3 : Op := Op.load 51 (.tmp 43)
theorem sl_thr_at {w : World} {g : Nat} {a b c : Value} {t : TypeId} (hg : w.heap.size = g) : Sl (w.alloc (.cells #[a, b, c] t)) (g + 1) (some ⟨g, 0, none⟩) [a, b, c] := by
  subst hg; exact sl_three'
theorem sl_one_at {w : World} {g : Nat} {a : Value} {t : TypeId} (hg : w.heap.size = g) : Sl (w.alloc (.cells #[a] t)) (g + 1) (some ⟨g, 0, none⟩) [a] := by
  subst hg; exact sl_one
theorem Sl.grown_ {w w' : World} {B g : Nat} {xs : List Value} {row : Option Nat} (h : Sl w B (some ⟨g, 0, none⟩) xs) (hlt : g < w.heap.size) (hg : w.grownBy w' row) (hr : row ≠ some g) : Sl w' w'.heap.size (some ⟨g, 0, none⟩) xs := by
  rcases h with h | ⟨b, o, e, _, hc⟩
  · exact .inl h
  · injection e with e
    injection e with e1 e2
    subst e1
    refine .inr ⟨g, o, by rw [← e2], Nat.lt_of_lt_of_le hlt hg.size, fun i hi => ?_⟩
    have := hc i hi
    unfold World.cell? at this ⊢
    rw [hg.block g hlt (fun e => hr e.symm)]
    exact this
set_option maxRecDepth 8000 in
set_option maxHeartbeats 32000000 in
theorem nmany_any (w : World) (a h q : Nat) (ha : a < 256) (hh : h < 256) (_hq : q < 256) : Calls Try.prog 13 #[.int .u8 (a : Int), .int .u8 (h : Int), .int .u8 (q : Int)] w fun e w' => e = .returned (.bool true) ∧ Below w.heap.size w w' := by
  have NK := Lib.hid (nawake_any w)
  obtain ⟨k, hk⟩ : ∃ k, k = a % 12 := ⟨_, rfl⟩
  obtain ⟨hd, hhd⟩ : ∃ k, k = h % 8 := ⟨_, rfl⟩
  have hk12 : k < 12 := by omega
  have hd8 : hd < 8 := by omega
  have r1 : (a : Int).tmod 12 = (k : Int) := by rw [hk]; exact (Int.ofNat_tmod a 12).symm
  have r2 : (h : Int).tmod 8 = (hd : Int) := by rw [hhd]; exact (Int.ofNat_tmod h 8).symm
  clear hk hhd
  go_enter Try.func13, Try.ntmps13
  go_upto_region 5 with (go_at_call 40; ((with_reducible refine NK.out.mono ?_); rintro e w1 ⟨rfl, b1⟩; have B1 := Lib.hid b1; clear b1))
  clear r1 r2 ha hh
  obtain ⟨xb, hxb⟩ : ∃ g, w1.heap.size = g := ⟨_, rfl⟩
  obtain ⟨W1, h1⟩ : ∃ W, w1.alloc (.cells #[.int .i64 (hd : Int), .slice none 0 0, .slice none 0 0, .slice none 0 0, .slice none 0 0] 60) = W := ⟨_, rfl⟩
  obtain ⟨z, hz⟩ : ∃ z, z = decide (hd = 0) := ⟨_, rfl⟩
  have HZ := Lib.hid hz
  have X0 := Lib.hid (show NX W1 xb (xb + 1) 60 86 (hd : Int) (mK 0) (mR z 0) (mG z 0) (mR (!z) 0) (.slice none 0 0) (.slice none 0 0) (.slice none 0 0) (.slice none 0 0) (.slice none 0 0) (.slice none 0 0) (.slice none 0 0) (.slice none 0 0) from by
    have e : mR z 0 = [] ∧ mG z 0 = [] ∧ mR (!z) 0 = [] := by cases z <;> exact ⟨rfl, rfl, rfl⟩
    rw [e.1, e.2.1, e.2.2]
    exact ⟨by rw [← h1, ← hxb]; exact Blk.new _ _ _, World.ownsRow_nil _ _ _ _, World.ownsRow_nil _ _ _ _, World.ownsRow_nil _ _ _ _, World.ownsRow_nil _ _ _ _, fun g h => by simp [Value.ownBlock] at h, by omega, by rw [← h1, ← hxb]; simp, by decide, by decide⟩)
  have BX := Lib.hid (show Below w.heap.size w W1 ∧ w.heap.size ≤ xb from ⟨by rw [← h1]; exact B1.out.alloc B1.out.size _, by rw [← hxb]; exact B1.out.size⟩)
  rw [h1, hxb]
  clear h1 hxb hz NK
  obtain ⟨i1, hi1, hz1, hs1, hb1⟩ := nint_parts
  obtain ⟨i2, hi2, hz2, hs2, hb2⟩ := nplace_parts
  obtain ⟨i4, hi4, hz4, hs4, hb4⟩ := kid_parts
  go_wp2_with fail
  go_loopw [10] (fun v wr => ∃ (i : Nat) (v1 v2 v3 v4 : Value), v = .int .i64 (i : Int) ∧ i ≤ k ∧ NX wr xb (xb + 1) 60 86 (hd : Int) (mK i) (mR z i) (mG z i) (mR (!z) i) v1 v2 v3 v4 v1 v2 v3 v4 ∧ Below w.heap.size w wr) (fun v _ => k - (intOf v).toNat)
  case atStart => exact ⟨0, _, _, _, _, rfl, Nat.zero_le _, X0.out, BX.out.1⟩
  case round =>
    obtain ⟨i, v1, v2, v3, v4, rfl, hi, hX, hB⟩ := hrel
    have HBw := Lib.hid hB
    by_cases hik : i < k
    · have q0 : decide ((i : Int) < (k : Int)) = true := by rw [decide_eq_true_eq]; omega
      have q0' : decide (i < k) = true := by rw [decide_eq_true_eq]; exact hik
      have o1 := hX.o1
      rw [mK_len] at o1
      obtain ⟨D1, d1, e1⟩ := own_slice o1
      subst e1
      have X7 := hX.alloc (.cells #[.int .i64 (10 * (i : Int))] 3)
      have B7 := Lib.hid (HBw.out.alloc HBw.out.size (.cells #[.int .i64 (10 * (i : Int))] 3))
      have y1 : wr.cell? ⟨xb, 1, none⟩ = some (.slice D1 i d1) := hX.blk.cell 1
      have HX7 := Lib.hid X7
      clear hX hB o1 X7
      cases z with
      | true =>
        as_aux_lemma =>
          have t0 : ((hd : Int) == 0) = true := by rw [beq_iff_eq]; have := of_decide_eq_true HZ.out.symm; omega
          go_upto_region 10 with (at_builtin; refine wpList_append_sls (base := xb + 1) _ rfl (.tmp 30) (.tmp 33) _ rfl Try.underlying51 hi1 hz1 hs1 hb1 rfl (by decide) rfl HX7.out.o1 (m := 1) (news := [.int .i64 (10 * (i : Int))]) rfl rfl (by simp) (Nat.le_refl _) sl_one (by simp [Value.oneCell']) (by rw [mK_len]; unfold maxLen; omega) (by rw [mK_len]; omega) HX7.out.hz ?_; intro v8 w8 g1 g2 g3; rw [mK_len] at g1; have ap := HX7.out.app1 (10 * (i : Int)) (mK_len i).symm g1 g2 g3; obtain ⟨P8, p8, rfl⟩ := own_slice g1; have f1 : w8.frozen? ⟨xb, 1, none⟩ = false := ap.1.blk.frozen 1; have u1 : w8.cell? ⟨xb, 1, none⟩ = some (.slice D1 i d1) := ap.1.blk.cell 1; obtain ⟨W9, h9⟩ : ∃ s, w8.setCell ⟨xb, 1, none⟩ (.slice P8 (i + 1) p8) = s := ⟨_, rfl⟩; have X9 := Lib.hid (ap.1.set1 (.slice P8 (i + 1) p8)); rw [h9] at X9; have B9 := Lib.hid (show Below w.heap.size w W9 from by rw [← h9]; exact B7.out.trans ((ap.2.setCell (p := ⟨xb, 1, none⟩) (Nat.le_refl _) _).mono BX.out.2)); have j0 : W9.cell? ⟨xb, 0, none⟩ = some (.int .i64 (hd : Int)) := X9.out.blk.cell 0; clear ap g1 g2 g3)
          clear h9 f1 u1 y1
          have o2 := X9.out.o2
          rw [mR_len] at o2
          obtain ⟨D2, d2, e2⟩ := own_slice o2
          have o3 := X9.out.o3
          rw [mG_len] at o3
          obtain ⟨D3, d3, e3⟩ := own_slice o3
          subst e2 e3
          clear o2 o3
          have XA := Lib.hid X9.out.drew
          have XP := Lib.hid (XA.out.alloc (.cells #[.int .i64 2, .int .i64 1, .int .i64 0] 84))
          have XQ := Lib.hid (XA.out.alloc (.cells #[.int .i64 1] 3))
          have XPQ := Lib.hid (XP.out.alloc (.cells #[.int .i64 1] 3))
          have XQP := Lib.hid (XQ.out.alloc (.cells #[.int .i64 2, .int .i64 1, .int .i64 0] 84))
          have BA := Lib.hid (show Below w.heap.size w W9.drew from B9.out.drew)
          have BP := Lib.hid (BA.out.alloc BA.out.size (.cells #[.int .i64 2, .int .i64 1, .int .i64 0] 84))
          have BQ := Lib.hid (BA.out.alloc BA.out.size (.cells #[.int .i64 1] 3))
          have BPQ := Lib.hid (BP.out.alloc BP.out.size (.cells #[.int .i64 1] 3))
          have BQP := Lib.hid (BQ.out.alloc BQ.out.size (.cells #[.int .i64 2, .int .i64 1, .int .i64 0] 84))
          have y101 : W9.cell? ⟨xb, 2, none⟩ = some (.slice D2 i d2) := XA.out.blk.cell 2
          have y102 : W9.cell? ⟨xb, 3, none⟩ = some (.slice D3 i d3) := XA.out.blk.cell 3
          have y103 : W9.drew.cell? ⟨xb, 2, none⟩ = some (.slice D2 i d2) := XA.out.blk.cell 2
          have y104 : W9.drew.cell? ⟨xb, 3, none⟩ = some (.slice D3 i d3) := XA.out.blk.cell 3
          have y105 : (W9.alloc (.cells #[.int .i64 2, .int .i64 1, .int .i64 0] 84)).cell? ⟨xb, 2, none⟩ = some (.slice D2 i d2) := XP.out.blk.cell 2
          have y106 : (W9.alloc (.cells #[.int .i64 2, .int .i64 1, .int .i64 0] 84)).cell? ⟨xb, 3, none⟩ = some (.slice D3 i d3) := XP.out.blk.cell 3
          have y107 : (W9.drew.alloc (.cells #[.int .i64 2, .int .i64 1, .int .i64 0] 84)).cell? ⟨xb, 2, none⟩ = some (.slice D2 i d2) := XP.out.blk.cell 2
          have y108 : (W9.drew.alloc (.cells #[.int .i64 2, .int .i64 1, .int .i64 0] 84)).cell? ⟨xb, 3, none⟩ = some (.slice D3 i d3) := XP.out.blk.cell 3
          have y109 : (W9.alloc (.cells #[.int .i64 2, .int .i64 1, .int .i64 0] 84)).drew.cell? ⟨xb, 2, none⟩ = some (.slice D2 i d2) := XP.out.blk.cell 2
          have y110 : (W9.alloc (.cells #[.int .i64 2, .int .i64 1, .int .i64 0] 84)).drew.cell? ⟨xb, 3, none⟩ = some (.slice D3 i d3) := XP.out.blk.cell 3
          have y111 : (W9.alloc (.cells #[.int .i64 1] 3)).cell? ⟨xb, 2, none⟩ = some (.slice D2 i d2) := XQ.out.blk.cell 2
          have y112 : (W9.alloc (.cells #[.int .i64 1] 3)).cell? ⟨xb, 3, none⟩ = some (.slice D3 i d3) := XQ.out.blk.cell 3
          have y113 : (W9.drew.alloc (.cells #[.int .i64 1] 3)).cell? ⟨xb, 2, none⟩ = some (.slice D2 i d2) := XQ.out.blk.cell 2
          have y114 : (W9.drew.alloc (.cells #[.int .i64 1] 3)).cell? ⟨xb, 3, none⟩ = some (.slice D3 i d3) := XQ.out.blk.cell 3
          have y115 : (W9.alloc (.cells #[.int .i64 1] 3)).drew.cell? ⟨xb, 2, none⟩ = some (.slice D2 i d2) := XQ.out.blk.cell 2
          have y116 : (W9.alloc (.cells #[.int .i64 1] 3)).drew.cell? ⟨xb, 3, none⟩ = some (.slice D3 i d3) := XQ.out.blk.cell 3
          have y117 : ((W9.alloc (.cells #[.int .i64 2, .int .i64 1, .int .i64 0] 84)).alloc (.cells #[.int .i64 1] 3)).cell? ⟨xb, 2, none⟩ = some (.slice D2 i d2) := XPQ.out.blk.cell 2
          have y118 : ((W9.alloc (.cells #[.int .i64 2, .int .i64 1, .int .i64 0] 84)).alloc (.cells #[.int .i64 1] 3)).cell? ⟨xb, 3, none⟩ = some (.slice D3 i d3) := XPQ.out.blk.cell 3
          have y119 : ((W9.drew.alloc (.cells #[.int .i64 2, .int .i64 1, .int .i64 0] 84)).alloc (.cells #[.int .i64 1] 3)).cell? ⟨xb, 2, none⟩ = some (.slice D2 i d2) := XPQ.out.blk.cell 2
          have y120 : ((W9.drew.alloc (.cells #[.int .i64 2, .int .i64 1, .int .i64 0] 84)).alloc (.cells #[.int .i64 1] 3)).cell? ⟨xb, 3, none⟩ = some (.slice D3 i d3) := XPQ.out.blk.cell 3
          have y121 : ((W9.alloc (.cells #[.int .i64 2, .int .i64 1, .int .i64 0] 84)).drew.alloc (.cells #[.int .i64 1] 3)).cell? ⟨xb, 2, none⟩ = some (.slice D2 i d2) := XPQ.out.blk.cell 2
          have y122 : ((W9.alloc (.cells #[.int .i64 2, .int .i64 1, .int .i64 0] 84)).drew.alloc (.cells #[.int .i64 1] 3)).cell? ⟨xb, 3, none⟩ = some (.slice D3 i d3) := XPQ.out.blk.cell 3
          have y123 : ((W9.alloc (.cells #[.int .i64 2, .int .i64 1, .int .i64 0] 84)).alloc (.cells #[.int .i64 1] 3)).drew.cell? ⟨xb, 2, none⟩ = some (.slice D2 i d2) := XPQ.out.blk.cell 2
          have y124 : ((W9.alloc (.cells #[.int .i64 2, .int .i64 1, .int .i64 0] 84)).alloc (.cells #[.int .i64 1] 3)).drew.cell? ⟨xb, 3, none⟩ = some (.slice D3 i d3) := XPQ.out.blk.cell 3
          have y125 : ((W9.alloc (.cells #[.int .i64 1] 3)).alloc (.cells #[.int .i64 2, .int .i64 1, .int .i64 0] 84)).cell? ⟨xb, 2, none⟩ = some (.slice D2 i d2) := XQP.out.blk.cell 2
          have y126 : ((W9.alloc (.cells #[.int .i64 1] 3)).alloc (.cells #[.int .i64 2, .int .i64 1, .int .i64 0] 84)).cell? ⟨xb, 3, none⟩ = some (.slice D3 i d3) := XQP.out.blk.cell 3
          have y127 : ((W9.drew.alloc (.cells #[.int .i64 1] 3)).alloc (.cells #[.int .i64 2, .int .i64 1, .int .i64 0] 84)).cell? ⟨xb, 2, none⟩ = some (.slice D2 i d2) := XQP.out.blk.cell 2
          have y128 : ((W9.drew.alloc (.cells #[.int .i64 1] 3)).alloc (.cells #[.int .i64 2, .int .i64 1, .int .i64 0] 84)).cell? ⟨xb, 3, none⟩ = some (.slice D3 i d3) := XQP.out.blk.cell 3
          have y129 : ((W9.alloc (.cells #[.int .i64 1] 3)).drew.alloc (.cells #[.int .i64 2, .int .i64 1, .int .i64 0] 84)).cell? ⟨xb, 2, none⟩ = some (.slice D2 i d2) := XQP.out.blk.cell 2
          have y130 : ((W9.alloc (.cells #[.int .i64 1] 3)).drew.alloc (.cells #[.int .i64 2, .int .i64 1, .int .i64 0] 84)).cell? ⟨xb, 3, none⟩ = some (.slice D3 i d3) := XQP.out.blk.cell 3
          have y131 : ((W9.alloc (.cells #[.int .i64 1] 3)).alloc (.cells #[.int .i64 2, .int .i64 1, .int .i64 0] 84)).drew.cell? ⟨xb, 2, none⟩ = some (.slice D2 i d2) := XQP.out.blk.cell 2
          have y132 : ((W9.alloc (.cells #[.int .i64 1] 3)).alloc (.cells #[.int .i64 2, .int .i64 1, .int .i64 0] 84)).drew.cell? ⟨xb, 3, none⟩ = some (.slice D3 i d3) := XQP.out.blk.cell 3
          have hl1 : ldM2 = Op.load 57 (.tmp 38) := rfl
          have hl2 : ldM3 = Op.load 51 (.tmp 43) := rfl
          rw [← hl1, ← hl2]
          go_region_held3 (fun _ => True) (trivial) (first
            | (refine step_append3 (base := xb + 1) _ rfl (.tmp 39) (.tmp 41) _ rfl Try.underlying57 hi2 hz2 hs2 hb2 rfl (by decide) rfl XP.out.o2 (m := 1) (news := [.int .i64 2, .int .i64 1, .int .i64 0]) rfl rfl (by simp) (Nat.le_refl _) (sl_thr_at (w := W9.drew) (g := W9.heap.size) rfl) (by simp [Value.oneCell']) (by rw [mR_len]; unfold maxLen; omega) (by rw [mR_len]; omega) XP.out.hz ?_; intro v8 w10 g1 g2 g3; rw [mR_len] at g1; have ap := XP.out.app2 ((2 : Int), (1 : Int), (0 : Int)) (mR_len i).symm g1 g2 g3; obtain ⟨Q8, q8, rfl⟩ := own_slice g1; have XR := Lib.hid ap.1; have XS := Lib.hid (ap.1.alloc (.cells #[.int .i64 1] 3)); have BR := Lib.hid (BP.out.trans (ap.2.mono BX.out.2)); have BS := Lib.hid (BR.out.alloc BR.out.size (.cells #[.int .i64 1] 3)); have yR : w10.cell? ⟨xb, 3, none⟩ = some (.slice D3 i d3) := ap.1.blk.cell 3; have yS : (w10.alloc (.cells #[.int .i64 1] 3)).cell? ⟨xb, 3, none⟩ = some (.slice D3 i d3) := XS.out.blk.cell 3; clear ap g1 g2 g3)
            | (refine step_append3 (base := xb + 1) _ rfl (.tmp 39) (.tmp 41) _ rfl Try.underlying57 hi2 hz2 hs2 hb2 rfl (by decide) rfl XPQ.out.o2 (m := 1) (news := [.int .i64 2, .int .i64 1, .int .i64 0]) rfl rfl (by simp) (Nat.le_refl _) ((sl_thr_at (w := W9.drew) (g := W9.heap.size) rfl).below (below_alloc (by simp) _)) (by simp [Value.oneCell']) (by rw [mR_len]; unfold maxLen; omega) (by rw [mR_len]; omega) XPQ.out.hz ?_; intro v8 w10 g1 g2 g3; rw [mR_len] at g1; have ap := XPQ.out.app2 ((2 : Int), (1 : Int), (0 : Int)) (mR_len i).symm g1 g2 g3; obtain ⟨Q8, q8, rfl⟩ := own_slice g1; have XR := Lib.hid ap.1; have XS := Lib.hid (ap.1.alloc (.cells #[.int .i64 1] 3)); have BR := Lib.hid (BPQ.out.trans (ap.2.mono BX.out.2)); have BS := Lib.hid (BR.out.alloc BR.out.size (.cells #[.int .i64 1] 3)); have yR : w10.cell? ⟨xb, 3, none⟩ = some (.slice D3 i d3) := ap.1.blk.cell 3; have yS : (w10.alloc (.cells #[.int .i64 1] 3)).cell? ⟨xb, 3, none⟩ = some (.slice D3 i d3) := XS.out.blk.cell 3; have SQ := Lib.hid ((sl_one_at (w := W9.drew.alloc (.cells #[.int .i64 2, .int .i64 1, .int .i64 0] 84)) (a := .int .i64 1) (t := 3) (g := W9.heap.size + 1) (by simp)).grown_ (by simp) g2 (fun e => by have : W9.heap.size + 1 < W9.heap.size := (XA.out.o2.lt _ e).2; omega)); clear ap g1 g2 g3)
            | (refine step_append3 (base := xb + 1) _ rfl (.tmp 39) (.tmp 41) _ rfl Try.underlying57 hi2 hz2 hs2 hb2 rfl (by decide) rfl XQP.out.o2 (m := 1) (news := [.int .i64 2, .int .i64 1, .int .i64 0]) rfl rfl (by simp) (Nat.le_refl _) (sl_thr_at (w := W9.drew.alloc (.cells #[.int .i64 1] 3)) (g := W9.heap.size + 1) (by simp)) (by simp [Value.oneCell']) (by rw [mR_len]; unfold maxLen; omega) (by rw [mR_len]; omega) XQP.out.hz ?_; intro v8 w10 g1 g2 g3; rw [mR_len] at g1; have ap := XQP.out.app2 ((2 : Int), (1 : Int), (0 : Int)) (mR_len i).symm g1 g2 g3; obtain ⟨Q8, q8, rfl⟩ := own_slice g1; have XR := Lib.hid ap.1; have XS := Lib.hid (ap.1.alloc (.cells #[.int .i64 1] 3)); have BR := Lib.hid (BQP.out.trans (ap.2.mono BX.out.2)); have BS := Lib.hid (BR.out.alloc BR.out.size (.cells #[.int .i64 1] 3)); have yR : w10.cell? ⟨xb, 3, none⟩ = some (.slice D3 i d3) := ap.1.blk.cell 3; have yS : (w10.alloc (.cells #[.int .i64 1] 3)).cell? ⟨xb, 3, none⟩ = some (.slice D3 i d3) := XS.out.blk.cell 3; have SQ := Lib.hid (((sl_one_at (w := W9.drew) (a := .int .i64 1) (t := 3) (g := W9.heap.size) rfl).below (below_alloc (by simp) (.cells #[.int .i64 2, .int .i64 1, .int .i64 0] 84))).grown_ (by simp; omega) g2 (fun e => by have : W9.heap.size < W9.heap.size := (XA.out.o2.lt _ e).2; omega)); clear ap g1 g2 g3)
            | (refine step_append3 (base := xb + 1) _ rfl (.tmp 44) (.tmp 45) _ rfl Try.underlying51 hi1 hz1 hs1 hb1 rfl (by decide) rfl XS.out.o3 (m := 1) (news := [.int .i64 1]) rfl rfl (by simp) (Nat.le_refl _) sl_one (by simp [Value.oneCell']) (by rw [mG_len]; unfold maxLen; omega) (by rw [mG_len]; omega) XS.out.hz ?_; intro v8 w12 g1 g2 g3; rw [mG_len] at g1; have ap := XS.out.app3 (1 : Int) (mG_len i).symm g1 g2 g3; obtain ⟨R8, r8, rfl⟩ := own_slice g1; have XT := Lib.hid ap.1; have f2 : w12.frozen? ⟨xb, 2, none⟩ = false := ap.1.blk.frozen 2; have u2 : w12.cell? ⟨xb, 2, none⟩ = some (.slice D2 i d2) := ap.1.blk.cell 2; obtain ⟨s1, hs1'⟩ : ∃ s, w12.setCell ⟨xb, 2, none⟩ (.slice Q8 (i + 1) q8) = s := ⟨_, rfl⟩; have XU := Lib.hid (ap.1.set2 (.slice Q8 (i + 1) q8)); rw [hs1'] at XU; have f3 : s1.frozen? ⟨xb, 3, none⟩ = false := XU.out.blk.frozen 3; have u3 : s1.cell? ⟨xb, 3, none⟩ = some (.slice D3 i d3) := XU.out.blk.cell 3; obtain ⟨s2, hs2'⟩ : ∃ s, s1.setCell ⟨xb, 3, none⟩ (.slice R8 (i + 1) r8) = s := ⟨_, rfl⟩; have XV := Lib.hid (XU.out.set3 (.slice R8 (i + 1) r8)); rw [hs2'] at XV; have BV := Lib.hid (show Below w.heap.size w s2 from by rw [← hs2', ← hs1']; exact BS.out.trans (((ap.2.setCell (p := ⟨xb, 2, none⟩) (Nat.le_refl _) _).setCell (p := ⟨xb, 3, none⟩) (Nat.le_refl _) _).mono BX.out.2)); clear ap g1 g2 g3)
            | (refine step_append3 (base := xb + 1) _ rfl (.tmp 44) (.tmp 45) _ rfl Try.underlying51 hi1 hz1 hs1 hb1 rfl (by decide) rfl XR.out.o3 (m := 1) (news := [.int .i64 1]) rfl rfl (by simp) (Nat.le_refl _) SQ.out (by simp [Value.oneCell']) (by rw [mG_len]; unfold maxLen; omega) (by rw [mG_len]; omega) XR.out.hz ?_; intro v8 w12 g1 g2 g3; rw [mG_len] at g1; have ap := XR.out.app3 (1 : Int) (mG_len i).symm g1 g2 g3; obtain ⟨R8, r8, rfl⟩ := own_slice g1; have XT := Lib.hid ap.1; have f2 : w12.frozen? ⟨xb, 2, none⟩ = false := ap.1.blk.frozen 2; have u2 : w12.cell? ⟨xb, 2, none⟩ = some (.slice D2 i d2) := ap.1.blk.cell 2; obtain ⟨s1, hs1'⟩ : ∃ s, w12.setCell ⟨xb, 2, none⟩ (.slice Q8 (i + 1) q8) = s := ⟨_, rfl⟩; have XU := Lib.hid (ap.1.set2 (.slice Q8 (i + 1) q8)); rw [hs1'] at XU; have f3 : s1.frozen? ⟨xb, 3, none⟩ = false := XU.out.blk.frozen 3; have u3 : s1.cell? ⟨xb, 3, none⟩ = some (.slice D3 i d3) := XU.out.blk.cell 3; obtain ⟨s2, hs2'⟩ : ∃ s, s1.setCell ⟨xb, 3, none⟩ (.slice R8 (i + 1) r8) = s := ⟨_, rfl⟩; have XV := Lib.hid (XU.out.set3 (.slice R8 (i + 1) r8)); rw [hs2'] at XV; have BV := Lib.hid (show Below w.heap.size w s2 from by rw [← hs2', ← hs1']; exact BR.out.trans (((ap.2.setCell (p := ⟨xb, 2, none⟩) (Nat.le_refl _) _).setCell (p := ⟨xb, 3, none⟩) (Nat.le_refl _) _).mono BX.out.2)); clear ap g1 g2 g3))
          all_goals
            have RX := Lib.hid XV.out
            go_wp2_with fail
            go_roundw
            case rel => exact ⟨i + 1, _, _, _, _, by go_num, by omega, by rw [mK_next, mR_next, mG_next]; exact RX.out, BV.out⟩
            case measure => simp [intOf]; omega
      | false =>
        have t0 : ((hd : Int) == 0) = false := by rw [beq_eq_false_iff_ne]; have := of_decide_eq_false HZ.out.symm; omega
        go_upto_region 11 with (at_builtin; refine wpList_append_sls (base := xb + 1) _ rfl (.tmp 30) (.tmp 33) _ rfl Try.underlying51 hi1 hz1 hs1 hb1 rfl (by decide) rfl HX7.out.o1 (m := 1) (news := [.int .i64 (10 * (i : Int))]) rfl rfl (by simp) (Nat.le_refl _) sl_one (by simp [Value.oneCell']) (by rw [mK_len]; unfold maxLen; omega) (by rw [mK_len]; omega) HX7.out.hz ?_; intro v8 w8 g1 g2 g3; rw [mK_len] at g1; have ap := HX7.out.app1 (10 * (i : Int)) (mK_len i).symm g1 g2 g3; obtain ⟨P8, p8, rfl⟩ := own_slice g1; have f1 : w8.frozen? ⟨xb, 1, none⟩ = false := ap.1.blk.frozen 1; have u1 : w8.cell? ⟨xb, 1, none⟩ = some (.slice D1 i d1) := ap.1.blk.cell 1; obtain ⟨W9, h9⟩ : ∃ s, w8.setCell ⟨xb, 1, none⟩ (.slice P8 (i + 1) p8) = s := ⟨_, rfl⟩; have X9 := Lib.hid (ap.1.set1 (.slice P8 (i + 1) p8)); rw [h9] at X9; have B9 := Lib.hid (show Below w.heap.size w W9 from by rw [← h9]; exact B7.out.trans ((ap.2.setCell (p := ⟨xb, 1, none⟩) (Nat.le_refl _) _).mono BX.out.2)); have j0 : W9.cell? ⟨xb, 0, none⟩ = some (.int .i64 (hd : Int)) := X9.out.blk.cell 0; clear ap g1 g2 g3)
        clear h9 f1 u1 y1
        have o4 := X9.out.o4
        rw [show (mR (!false) i).length = i from mR_len i] at o4
        obtain ⟨D4, d4, e4⟩ := own_slice o4
        subst e4
        clear o4
        have y4 : W9.cell? ⟨xb, 4, none⟩ = some (.slice D4 i d4) := X9.out.blk.cell 4
        have X10 := Lib.hid (X9.out.alloc (.cells #[.int .i64 2, .int .i64 1, .int .i64 0] 86))
        have B10 := Lib.hid (B9.out.alloc B9.out.size (.cells #[.int .i64 2, .int .i64 1, .int .i64 0] 86))
        go_wp2_with (at_builtin; refine wpList_append_sls (base := xb + 1) _ rfl (.tmp 50) (.tmp 52) _ rfl Try.underlying58 hi4 hz4 hs4 hb4 rfl (by decide) rfl X10.out.o4 (m := 1) (news := [.int .i64 2, .int .i64 1, .int .i64 0]) rfl rfl (by simp) (Nat.le_refl _) sl_three' (by simp [Value.oneCell']) (by rw [show (mR (!false) i).length = i from mR_len i]; unfold maxLen; omega) (by rw [show (mR (!false) i).length = i from mR_len i]; omega) X10.out.hz ?_; intro v8 w10 g1 g2 g3; rw [show (mR (!false) i).length = i from mR_len i] at g1; have ap := X10.out.app4 ((2 : Int), (1 : Int), (0 : Int)) (mR_len i).symm g1 g2 g3; obtain ⟨Q8, q8, rfl⟩ := own_slice g1; have f4 : w10.frozen? ⟨xb, 4, none⟩ = false := ap.1.blk.frozen 4; have u4 : w10.cell? ⟨xb, 4, none⟩ = some (.slice D4 i d4) := ap.1.blk.cell 4; have XV := Lib.hid (ap.1.set4 (.slice Q8 (i + 1) q8)); have BV := Lib.hid (B10.out.trans ((ap.2.setCell (p := ⟨xb, 4, none⟩) (Nat.le_refl _) (.slice Q8 (i + 1) q8)).mono BX.out.2)); clear ap g1 g2 g3)
        go_roundw
        case rel => exact ⟨i + 1, _, _, _, _, by go_num, by omega, by rw [mK_next, show mR (!false) (i + 1) = mR (!false) i ++ [(2, 1, 0)] from mR_next i]; exact XV.out, BV.out⟩
        case measure => simp [intOf]; omega
    · have hik' : i = k := by omega
      have q0 : decide ((i : Int) < (k : Int)) = false := by rw [decide_eq_false_iff_not]; omega
      have q0' : decide (i < k) = false := by rw [decide_eq_false_iff_not]; exact hik
      subst hik'
      obtain ⟨F, hF⟩ : ∃ F, F = decide (i ≤ 8 ∧ hd < 6 ∧ (hd = 0 ∨ 1 ≤ i)) := ⟨_, rfl⟩
      have HF := Lib.hid (show F = true ↔ Nd.Ok (mN hd i z) from by rw [hF, decide_eq_true_eq]; exact (mN_ok HZ.out hk12 hd8).symm)
      have HF2 := Lib.hid hF
      have HX := Lib.hid hX
      clear hX hB hik hF
      go_upto_region 12 with fail
      go_cut [11] from 55 to 68 (fun v wx => v = .bool F ∧ wx = wr)
      case first =>
        as_aux_lemma =>
          obtain ⟨p1, c1⟩ : ∃ p, decide ((i : Int) ≤ 8) = p := ⟨_, rfl⟩
          obtain ⟨p2, c2⟩ : ∃ p, decide ((hd : Int) < 6) = p := ⟨_, rfl⟩
          obtain ⟨p3, c3⟩ : ∃ p, ((hd : Int) == 0) = p := ⟨_, rfl⟩
          obtain ⟨p4, c4⟩ : ∃ p, decide ((1 : Int) ≤ (i : Int)) = p := ⟨_, rfl⟩
          have c1' : decide (i ≤ 8) = p1 := by rw [← c1]; exact decide_eq_decide.2 (by omega)
          have c2' : decide (hd < 6) = p2 := by rw [← c2]; exact decide_eq_decide.2 (by omega)
          have c4' : decide (1 ≤ i) = p4 := by rw [← c4]; exact decide_eq_decide.2 (by omega)
          have c3' : decide (hd = 0) = p3 := by
            rw [← c3]
            by_cases h0 : hd = 0
            · rw [decide_eq_true h0, h0]; rfl
            · rw [decide_eq_false h0]; symm; rw [beq_eq_false_iff_ne]; omega
          have e : F = (p1 && (p2 && (p3 || p4))) := by rw [HF2.out, Bool.decide_and, Bool.decide_and, Bool.decide_or, c1', c2', c3', c4']
          have He := Lib.hid e
          clear e c3'
          cases p1 <;> cases p2 <;> cases p3 <;> cases p4 <;> (go_wp2_with fail; go_meet; exact ⟨by rw [He.out]; rfl, rfl⟩)
      case rest =>
      obtain ⟨rfl, hwc⟩ := hcut
      subst hwc
      have NN := Lib.hid (node_any HX.out.nd (show FewOk ⟨(hd : Int), mK i, mR z i, mG z i, mR (!z) i⟩ from ⟨by show (mK i).length ≤ 40; rw [mK_len]; omega, Nat.le_trans (mR_le z i) (by omega), Nat.le_trans (mG_le z i) (by omega), Nat.le_trans (mR_le (!z) i) (by omega)⟩))
      have NM0 := Lib.hid (fun (V : World) (v : Value) (h : NdAt V V.heap.size v ⟨(hd : Int), mK i, mR z i, mG z i, mR (!z) i⟩) => may_any h F HF.out)
      obtain ⟨l1, hl1⟩ : ∃ l, l = (mK i).length := ⟨_, rfl⟩
      obtain ⟨l2, hl2⟩ : ∃ l, l = (mR z i).length := ⟨_, rfl⟩
      obtain ⟨l3, hl3⟩ : ∃ l, l = (mG z i).length := ⟨_, rfl⟩
      obtain ⟨l4, hl4⟩ : ∃ l, l = (mR (!z) i).length := ⟨_, rfl⟩
      have m1 : l1 ≤ 11 := by rw [hl1, mK_len]; omega
      have m2 : l2 ≤ 11 := by rw [hl2]; exact Nat.le_trans (mR_le z i) (by omega)
      have m3 : l3 ≤ 11 := by rw [hl3]; exact Nat.le_trans (mG_le z i) (by omega)
      have m4 : l4 ≤ 11 := by rw [hl4]; exact Nat.le_trans (mR_le (!z) i) (by omega)
      have E1 := Lib.hid hl1
      have E2 := Lib.hid hl2
      have E3 := Lib.hid hl3
      have E4 := Lib.hid hl4
      have o1 := HX.out.o1
      have o2 := HX.out.o2
      have o3 := HX.out.o3
      have o4 := HX.out.o4
      rw [← hl1] at o1
      rw [← hl2] at o2
      rw [← hl3] at o3
      rw [← hl4] at o4
      obtain ⟨D1, d1, e1⟩ := own_slice o1
      obtain ⟨D2, d2, e2⟩ := own_slice o2
      obtain ⟨D3, d3, e3⟩ := own_slice o3
      obtain ⟨D4, d4, e4⟩ := own_slice o4
      subst e1 e2 e3 e4
      have j0 := HX.out.blk.cell 0
      have j1 := HX.out.blk.cell 1
      have j2 := HX.out.blk.cell 2
      have j3 := HX.out.blk.cell 3
      have j4 := HX.out.blk.cell 4
      clear hl1 hl2 hl3 hl4 o1 o2 o3 o4
      go_upto_region 15 with (first
        | (go_at_call 43; ((with_reducible refine NN.out.mono ?_); rintro e w13 ⟨v13, rfl, g13, b13⟩; have B13 := Lib.hid b13; have NM := Lib.hid (NM0.out w13 v13 g13); clear b13 g13))
        | (go_at_call 45; ((with_reducible refine NM.out.mono ?_); rintro e w14 ⟨rfl, b14⟩; have B14 := Lib.hid (B13.out.trans (b14.mono B13.out.size)); clear b14)))
      have X14 := Lib.hid (HX.out.below B14.out)
      have B14 := Lib.hid (HBw.out.trans (B14.out.mono HBw.out.size))
      clear j0 j1 j2 j3 j4 NN NM0
      have hr4 : q % 4 = 0 ∨ q % 4 = 1 ∨ q % 4 = 2 ∨ q % 4 = 3 := by omega
      rcases hr4 with hr' | hr' | hr' | hr'
      · as_aux_lemma =>
          have r3 : (q : Int).tmod 4 = 0 := by rw [show (4 : Int) = ((4 : Nat) : Int) from rfl, ← Int.ofNat_tmod, hr']; rfl
          have Hno := Lib.hid (show ¬ Nd.Ok ⟨(hd : Int), mK i ++ [500], mR z i, mG z i, mR (!z) i⟩ from mN_not HZ.out rfl (.inl ⟨by show (mK i ++ [500]).length = i + 1; rw [List.length_append, mK_len]; rfl, rfl, rfl⟩))
          have Few2 := Lib.hid (show FewOk ⟨(hd : Int), mK i ++ [500], mR z i, mG z i, mR (!z) i⟩ from ⟨by show (mK i ++ [500]).length ≤ 40; rw [List.length_append, mK_len]; simp; omega, Nat.le_trans (mR_le z i) (by omega), Nat.le_trans (mG_le z i) (by omega), Nat.le_trans (mR_le (!z) i) (by omega)⟩)
          have X15 := Lib.hid (X14.out.alloc (.cells #[.int .i64 500] 3))
          have B15 := Lib.hid (B14.out.alloc B14.out.size (.cells #[.int .i64 500] 3))
          have y5 : w14.cell? ⟨xb, 1, none⟩ = some (.slice D1 l1 d1) := X14.out.blk.cell 1
          clear hr'
          go_wp2_with (first
            | (at_builtin; refine wpList_append_sls (base := xb + 1) _ rfl (.tmp 84) (.tmp 85) _ rfl Try.underlying51 hi1 hz1 hs1 hb1 rfl (by decide) rfl X15.out.o1 (m := 1) (news := [.int .i64 500]) rfl rfl (by simp) (Nat.le_refl _) sl_one (by simp [Value.oneCell']) (by rw [← E1.out]; unfold maxLen; omega) (by rw [← E1.out]; omega) X15.out.hz ?_; intro v16 w16 g1 g2 g3; rw [← E1.out] at g1; have ap := X15.out.app1 (500 : Int) E1.out g1 g2 g3; obtain ⟨Q8, q8, rfl⟩ := own_slice g1; have f4 : w16.frozen? ⟨xb, 1, none⟩ = false := ap.1.blk.frozen 1; have u4 : w16.cell? ⟨xb, 1, none⟩ = some (.slice D1 l1 d1) := ap.1.blk.cell 1; obtain ⟨w17, h17⟩ : ∃ s, w16.setCell ⟨xb, 1, none⟩ (.slice Q8 (l1 + 1) q8) = s := ⟨_, rfl⟩; have XV := ap.1.set1 (.slice Q8 (l1 + 1) q8); rw [h17] at XV; have B17 := Lib.hid (show Below w.heap.size w w17 from by rw [← h17]; exact B15.out.trans ((ap.2.setCell (p := ⟨xb, 1, none⟩) (Nat.le_refl _) _).mono BX.out.2)); have HV := Lib.hid XV; have NN := Lib.hid (node_any XV.nd Few2.out); have j0 := XV.blk.cell 0; have j1 := XV.blk.cell 1; have j2 := XV.blk.cell 2; have j3 := XV.blk.cell 3; have j4 := XV.blk.cell 4; clear ap g1 g2 g3 XV)
            | (go_at_call 43; ((with_reducible refine NN.out.mono ?_); rintro e w18 ⟨v18, rfl, g18, b18⟩; have B18 := Lib.hid b18; have NE := Lib.hid (enc_no g18 Hno.out); clear b18 g18 NN))
            | (go_at_call 42; ((with_reducible refine NE.out.mono ?_); rintro e w19 ⟨rfl, b19⟩; have B19 := Lib.hid (B18.out.trans (b19.mono B18.out.size)); have X19 := HV.out.below B19.out; have NN2 := Lib.hid (node_any X19.nd Few2.out); have j0 := X19.blk.cell 0; have j1 := X19.blk.cell 1; have j2 := X19.blk.cell 2; have j3 := X19.blk.cell 3; have j4 := X19.blk.cell 4; clear b19 X19))
            | (go_at_call 43; ((with_reducible refine NN2.out.mono ?_); rintro e w20 ⟨v20, rfl, g20, b20⟩; have B20 := Lib.hid (B19.out.trans (b20.mono B19.out.size)); have NM := Lib.hid (may_any g20 false ⟨(fun h => by cases h), fun h => absurd h Hno.out⟩); clear b20 g20))
            | (go_at_call 45; ((with_reducible refine NM.out.mono ?_); rintro e w21 ⟨rfl, b21⟩; have B21 := Lib.hid (B20.out.trans (b21.mono B20.out.size)); clear b21)))
          have Fin := Lib.hid (B17.out.trans (B21.out.mono B17.out.size))
          go_ret
          exact ⟨by first | rfl | simp, Fin.out⟩
      · as_aux_lemma =>
          have r3 : (q : Int).tmod 4 = 1 := by rw [show (4 : Int) = ((4 : Nat) : Int) from rfl, ← Int.ofNat_tmod, hr']; rfl
          have Hno := Lib.hid (show ¬ Nd.Ok ⟨(hd : Int), mK i, mR z i, mG z i, mR (!z) i ++ [(2, 1, 0)]⟩ from mN_not HZ.out rfl (.inr (.inl ⟨mK_len i, by show (mR (!z) i ++ [(2, 1, 0)]).length = _; rw [List.length_append]; rfl⟩)))
          have Few2 := Lib.hid (show FewOk ⟨(hd : Int), mK i, mR z i, mG z i, mR (!z) i ++ [(2, 1, 0)]⟩ from ⟨by show (mK i).length ≤ 40; rw [mK_len]; omega, Nat.le_trans (mR_le z i) (by omega), Nat.le_trans (mG_le z i) (by omega), by show (mR (!z) i ++ [(2, 1, 0)]).length ≤ 40; rw [List.length_append]; have := mR_le (!z) i; simp; omega⟩)
          have X15 := Lib.hid (X14.out.alloc (.cells #[.int .i64 2, .int .i64 1, .int .i64 0] 86))
          have B15 := Lib.hid (B14.out.alloc B14.out.size (.cells #[.int .i64 2, .int .i64 1, .int .i64 0] 86))
          have y5 : w14.cell? ⟨xb, 4, none⟩ = some (.slice D4 l4 d4) := X14.out.blk.cell 4
          clear hr'
          go_wp2_with (first
            | (at_builtin; refine wpList_append_sls (base := xb + 1) _ rfl (.tmp 91) (.tmp 93) _ rfl Try.underlying58 hi4 hz4 hs4 hb4 rfl (by decide) rfl X15.out.o4 (m := 1) (news := [.int .i64 2, .int .i64 1, .int .i64 0]) rfl rfl (by simp) (Nat.le_refl _) sl_three' (by simp [Value.oneCell']) (by rw [← E4.out]; unfold maxLen; omega) (by rw [← E4.out]; omega) X15.out.hz ?_; intro v16 w16 g1 g2 g3; rw [← E4.out] at g1; have ap := X15.out.app4 ((2 : Int), (1 : Int), (0 : Int)) E4.out g1 g2 g3; obtain ⟨Q8, q8, rfl⟩ := own_slice g1; have f4 : w16.frozen? ⟨xb, 4, none⟩ = false := ap.1.blk.frozen 4; have u4 : w16.cell? ⟨xb, 4, none⟩ = some (.slice D4 l4 d4) := ap.1.blk.cell 4; obtain ⟨w17, h17⟩ : ∃ s, w16.setCell ⟨xb, 4, none⟩ (.slice Q8 (l4 + 1) q8) = s := ⟨_, rfl⟩; have XV := ap.1.set4 (.slice Q8 (l4 + 1) q8); rw [h17] at XV; have B17 := Lib.hid (show Below w.heap.size w w17 from by rw [← h17]; exact B15.out.trans ((ap.2.setCell (p := ⟨xb, 4, none⟩) (Nat.le_refl _) _).mono BX.out.2)); have HV := Lib.hid XV; have NN := Lib.hid (node_any XV.nd Few2.out); have j0 := XV.blk.cell 0; have j1 := XV.blk.cell 1; have j2 := XV.blk.cell 2; have j3 := XV.blk.cell 3; have j4 := XV.blk.cell 4; clear ap g1 g2 g3 XV)
            | (go_at_call 43; ((with_reducible refine NN.out.mono ?_); rintro e w18 ⟨v18, rfl, g18, b18⟩; have B18 := Lib.hid b18; have NE := Lib.hid (enc_no g18 Hno.out); clear b18 g18 NN))
            | (go_at_call 42; ((with_reducible refine NE.out.mono ?_); rintro e w19 ⟨rfl, b19⟩; have B19 := Lib.hid (B18.out.trans (b19.mono B18.out.size)); have X19 := HV.out.below B19.out; have NN2 := Lib.hid (node_any X19.nd Few2.out); have j0 := X19.blk.cell 0; have j1 := X19.blk.cell 1; have j2 := X19.blk.cell 2; have j3 := X19.blk.cell 3; have j4 := X19.blk.cell 4; clear b19 X19))
            | (go_at_call 43; ((with_reducible refine NN2.out.mono ?_); rintro e w20 ⟨v20, rfl, g20, b20⟩; have B20 := Lib.hid (B19.out.trans (b20.mono B19.out.size)); have NM := Lib.hid (may_any g20 false ⟨(fun h => by cases h), fun h => absurd h Hno.out⟩); clear b20 g20))
            | (go_at_call 45; ((with_reducible refine NM.out.mono ?_); rintro e w21 ⟨rfl, b21⟩; have B21 := Lib.hid (B20.out.trans (b21.mono B20.out.size)); clear b21)))
          have Fin := Lib.hid (B17.out.trans (B21.out.mono B17.out.size))
          go_ret
          exact ⟨by first | rfl | simp, Fin.out⟩
      · as_aux_lemma =>
          have r3 : (q : Int).tmod 4 = 2 := by rw [show (4 : Int) = ((4 : Nat) : Int) from rfl, ← Int.ofNat_tmod, hr']; rfl
          have Hno := Lib.hid (show ¬ Nd.Ok ⟨(hd : Int), mK i, mR z i ++ [(2, 1, 0)], mG z i, mR (!z) i⟩ from mN_not HZ.out rfl (.inr (.inr (.inl ⟨mK_len i, by show (mR z i ++ [(2, 1, 0)]).length = _; rw [List.length_append]; rfl⟩))))
          have Few2 := Lib.hid (show FewOk ⟨(hd : Int), mK i, mR z i ++ [(2, 1, 0)], mG z i, mR (!z) i⟩ from ⟨by show (mK i).length ≤ 40; rw [mK_len]; omega, by show (mR z i ++ [(2, 1, 0)]).length ≤ 40; rw [List.length_append]; have := mR_le z i; simp; omega, Nat.le_trans (mG_le z i) (by omega), Nat.le_trans (mR_le (!z) i) (by omega)⟩)
          have X15 := Lib.hid (X14.out.alloc (.cells #[.int .i64 2, .int .i64 1, .int .i64 0] 84))
          have B15 := Lib.hid (B14.out.alloc B14.out.size (.cells #[.int .i64 2, .int .i64 1, .int .i64 0] 84))
          have y5 : w14.cell? ⟨xb, 2, none⟩ = some (.slice D2 l2 d2) := X14.out.blk.cell 2
          clear hr'
          go_wp2_with (first
            | (at_builtin; refine wpList_append_sls (base := xb + 1) _ rfl (.tmp 99) (.tmp 101) _ rfl Try.underlying57 hi2 hz2 hs2 hb2 rfl (by decide) rfl X15.out.o2 (m := 1) (news := [.int .i64 2, .int .i64 1, .int .i64 0]) rfl rfl (by simp) (Nat.le_refl _) sl_three' (by simp [Value.oneCell']) (by rw [← E2.out]; unfold maxLen; omega) (by rw [← E2.out]; omega) X15.out.hz ?_; intro v16 w16 g1 g2 g3; rw [← E2.out] at g1; have ap := X15.out.app2 ((2 : Int), (1 : Int), (0 : Int)) E2.out g1 g2 g3; obtain ⟨Q8, q8, rfl⟩ := own_slice g1; have f4 : w16.frozen? ⟨xb, 2, none⟩ = false := ap.1.blk.frozen 2; have u4 : w16.cell? ⟨xb, 2, none⟩ = some (.slice D2 l2 d2) := ap.1.blk.cell 2; obtain ⟨w17, h17⟩ : ∃ s, w16.setCell ⟨xb, 2, none⟩ (.slice Q8 (l2 + 1) q8) = s := ⟨_, rfl⟩; have XV := ap.1.set2 (.slice Q8 (l2 + 1) q8); rw [h17] at XV; have B17 := Lib.hid (show Below w.heap.size w w17 from by rw [← h17]; exact B15.out.trans ((ap.2.setCell (p := ⟨xb, 2, none⟩) (Nat.le_refl _) _).mono BX.out.2)); have HV := Lib.hid XV; have NN := Lib.hid (node_any XV.nd Few2.out); have j0 := XV.blk.cell 0; have j1 := XV.blk.cell 1; have j2 := XV.blk.cell 2; have j3 := XV.blk.cell 3; have j4 := XV.blk.cell 4; clear ap g1 g2 g3 XV)
            | (go_at_call 43; ((with_reducible refine NN.out.mono ?_); rintro e w18 ⟨v18, rfl, g18, b18⟩; have B18 := Lib.hid b18; have NE := Lib.hid (enc_no g18 Hno.out); clear b18 g18 NN))
            | (go_at_call 42; ((with_reducible refine NE.out.mono ?_); rintro e w19 ⟨rfl, b19⟩; have B19 := Lib.hid (B18.out.trans (b19.mono B18.out.size)); have X19 := HV.out.below B19.out; have NN2 := Lib.hid (node_any X19.nd Few2.out); have j0 := X19.blk.cell 0; have j1 := X19.blk.cell 1; have j2 := X19.blk.cell 2; have j3 := X19.blk.cell 3; have j4 := X19.blk.cell 4; clear b19 X19))
            | (go_at_call 43; ((with_reducible refine NN2.out.mono ?_); rintro e w20 ⟨v20, rfl, g20, b20⟩; have B20 := Lib.hid (B19.out.trans (b20.mono B19.out.size)); have NM := Lib.hid (may_any g20 false ⟨(fun h => by cases h), fun h => absurd h Hno.out⟩); clear b20 g20))
            | (go_at_call 45; ((with_reducible refine NM.out.mono ?_); rintro e w21 ⟨rfl, b21⟩; have B21 := Lib.hid (B20.out.trans (b21.mono B20.out.size)); clear b21)))
          have Fin := Lib.hid (B17.out.trans (B21.out.mono B17.out.size))
          go_ret
          exact ⟨by first | rfl | simp, Fin.out⟩
      · as_aux_lemma =>
          have r3 : (q : Int).tmod 4 = 3 := by rw [show (4 : Int) = ((4 : Nat) : Int) from rfl, ← Int.ofNat_tmod, hr']; rfl
          have Hno := Lib.hid (show ¬ Nd.Ok ⟨(hd : Int), mK i, mR z i, mG z i ++ [1], mR (!z) i⟩ from mN_not HZ.out rfl (.inr (.inr (.inr ⟨mK_len i, by show (mG z i ++ [1]).length = _; rw [List.length_append]; rfl⟩))))
          have Few2 := Lib.hid (show FewOk ⟨(hd : Int), mK i, mR z i, mG z i ++ [1], mR (!z) i⟩ from ⟨by show (mK i).length ≤ 40; rw [mK_len]; omega, Nat.le_trans (mR_le z i) (by omega), by show (mG z i ++ [1]).length ≤ 40; rw [List.length_append]; have := mG_le z i; simp; omega, Nat.le_trans (mR_le (!z) i) (by omega)⟩)
          have X15 := Lib.hid (X14.out.alloc (.cells #[.int .i64 1] 3))
          have B15 := Lib.hid (B14.out.alloc B14.out.size (.cells #[.int .i64 1] 3))
          have y5 : w14.cell? ⟨xb, 3, none⟩ = some (.slice D3 l3 d3) := X14.out.blk.cell 3
          clear hr'
          go_wp2_with (first
            | (at_builtin; refine wpList_append_sls (base := xb + 1) _ rfl (.tmp 77) (.tmp 78) _ rfl Try.underlying51 hi1 hz1 hs1 hb1 rfl (by decide) rfl X15.out.o3 (m := 1) (news := [.int .i64 1]) rfl rfl (by simp) (Nat.le_refl _) sl_one (by simp [Value.oneCell']) (by rw [← E3.out]; unfold maxLen; omega) (by rw [← E3.out]; omega) X15.out.hz ?_; intro v16 w16 g1 g2 g3; rw [← E3.out] at g1; have ap := X15.out.app3 (1 : Int) E3.out g1 g2 g3; obtain ⟨Q8, q8, rfl⟩ := own_slice g1; have f4 : w16.frozen? ⟨xb, 3, none⟩ = false := ap.1.blk.frozen 3; have u4 : w16.cell? ⟨xb, 3, none⟩ = some (.slice D3 l3 d3) := ap.1.blk.cell 3; obtain ⟨w17, h17⟩ : ∃ s, w16.setCell ⟨xb, 3, none⟩ (.slice Q8 (l3 + 1) q8) = s := ⟨_, rfl⟩; have XV := ap.1.set3 (.slice Q8 (l3 + 1) q8); rw [h17] at XV; have B17 := Lib.hid (show Below w.heap.size w w17 from by rw [← h17]; exact B15.out.trans ((ap.2.setCell (p := ⟨xb, 3, none⟩) (Nat.le_refl _) _).mono BX.out.2)); have HV := Lib.hid XV; have NN := Lib.hid (node_any XV.nd Few2.out); have j0 := XV.blk.cell 0; have j1 := XV.blk.cell 1; have j2 := XV.blk.cell 2; have j3 := XV.blk.cell 3; have j4 := XV.blk.cell 4; clear ap g1 g2 g3 XV)
            | (go_at_call 43; ((with_reducible refine NN.out.mono ?_); rintro e w18 ⟨v18, rfl, g18, b18⟩; have B18 := Lib.hid b18; have NE := Lib.hid (enc_no g18 Hno.out); clear b18 g18 NN))
            | (go_at_call 42; ((with_reducible refine NE.out.mono ?_); rintro e w19 ⟨rfl, b19⟩; have B19 := Lib.hid (B18.out.trans (b19.mono B18.out.size)); have X19 := HV.out.below B19.out; have NN2 := Lib.hid (node_any X19.nd Few2.out); have j0 := X19.blk.cell 0; have j1 := X19.blk.cell 1; have j2 := X19.blk.cell 2; have j3 := X19.blk.cell 3; have j4 := X19.blk.cell 4; clear b19 X19))
            | (go_at_call 43; ((with_reducible refine NN2.out.mono ?_); rintro e w20 ⟨v20, rfl, g20, b20⟩; have B20 := Lib.hid (B19.out.trans (b20.mono B19.out.size)); have NM := Lib.hid (may_any g20 false ⟨(fun h => by cases h), fun h => absurd h Hno.out⟩); clear b20 g20))
            | (go_at_call 45; ((with_reducible refine NM.out.mono ?_); rintro e w21 ⟨rfl, b21⟩; have B21 := Lib.hid (B20.out.trans (b21.mono B20.out.size)); clear b21)))
          have Fin := Lib.hid (B17.out.trans (B21.out.mono B17.out.size))
          go_ret
          exact ⟨by first | rfl | simp, Fin.out⟩
end Go.Proofs.Ytdfelkkibolheaa
