/- TreeRises. -/
import Derived.Test.YtfjhimnjipdajaaTlg
import Derived.Test.YtfjhimnjipdajaaTrt
namespace Go.Proofs.Ytfjhimnjipdajaa
open Go.RowKit
namespace Tr
def rk (a k i : Nat) : Int := (((a + i * k) % 512 : Nat) : Int)
def rE (a k i : Nat) : E := ⟨rk a k i, ((2 : Int) + i, 1, 0), 3⟩
def rL (a k n : Nat) : List E := (List.range n).map (rE a k)
theorem rL_next (a k n : Nat) : rL a k (n + 1) = rL a k n ++ [rE a k n] := by unfold rL; rw [List.range_succ, List.map_append]; rfl
theorem odd_ok : ((List.range 64).all fun s => (List.range 40).all fun d => d == 0 || ((d * (2 * s + 1)) % 512 != 0)) = true := by kernel_rfl
theorem rk_ne {a s i j : Nat} (hs : s < 64) (hij : i < j) (hj : j < 40) : rk a (2 * s + 1) i ≠ rk a (2 * s + 1) j := by
  intro h
  have h := Int.ofNat.inj h
  have h1 := List.all_eq_true.1 odd_ok s (List.mem_range.2 hs)
  have h2 := List.all_eq_true.1 h1 (j - i) (List.mem_range.2 (by omega))
  have e : j * (2 * s + 1) = i * (2 * s + 1) + (j - i) * (2 * s + 1) := by rw [← Nat.add_mul]; congr 1; omega
  rw [e] at h
  obtain ⟨x, hx⟩ : ∃ x, i * (2 * s + 1) = x := ⟨_, rfl⟩
  obtain ⟨y, hy⟩ : ∃ y, (j - i) * (2 * s + 1) = y := ⟨_, rfl⟩
  rw [hx, hy] at h
  rw [hy] at h2
  have h3 : y % 512 = 0 := by omega
  rw [h3] at h2
  have h4 : (j - i == 0) = false := by rw [beq_eq_false_iff_ne]; omega
  rw [h4] at h2
  cases h2
theorem rL_mem {a k n : Nat} {e : E} (h : e ∈ rL a k n) : ∃ i, i < n ∧ e = rE a k i := by
  obtain ⟨i, hi, rfl⟩ := List.mem_map.1 h
  exact ⟨i, List.mem_range.1 hi, rfl⟩
theorem rises_not {a s n : Nat} (hs : s < 64) (hn : n < 40) : ∀ e ∈ puts [] (rL a (2 * s + 1) n), e.k ≠ rk a (2 * s + 1) n := fun e he => by
  rcases puts_mem he with h | h
  · cases h
  · obtain ⟨i, hi, rfl⟩ := rL_mem h
    exact rk_ne hs hi hn
theorem rises_next (a k n : Nat) : puts [] (rL a k (n + 1)) = puts (puts [] (rL a k n)) [rE a k n] := by rw [rL_next, puts_next]; rfl
theorem rises_len {a s : Nat} (hs : s < 64) : ∀ n : Nat, n ≤ 40 → (puts [] (rL a (2 * s + 1) n)).length = n
  | 0, _ => rfl
  | n + 1, h => by
    rw [rises_next]
    show (ins (puts [] (rL a (2 * s + 1) n)) (rE a (2 * s + 1) n)).length = n + 1
    rw [ins_len, if_neg (fun hh => by
      obtain ⟨e, he, hk⟩ := hit_mem hh
      exact rises_not hs (by omega) e he hk), rises_len hs n (by omega)]
theorem rises_get {a s n : Nat} (hs : s < 64) (hn : n < 40) : get (puts [] (rL a (2 * s + 1) n)) (rk a (2 * s + 1) n) = none := get_none (rises_not hs hn)
theorem rE_ok {a k i : Nat} (hi : i ≤ 40) : EOk (rE a k i) := by
  refine ⟨⟨by show (0 : Int) ≤ (((a + i * k) % 512 : Nat) : Int); omega, by show (((a + i * k) % 512 : Nat) : Int) < 512; omega⟩, ⟨?_, ?_, ?_, ?_, ?_⟩, (show (0 : Int) ≤ 0 by decide), (show (0 : Int) < 8 by decide), (show (0 : Int) ≤ 3 by decide), (show (3 : Int) < 268435456 by decide)⟩
  · show (0 : Int) ≤ 2 + (i : Int); omega
  · show (2 : Int) + (i : Int) < 8192; omega
  · show (1 : Int) ≤ 1; decide
  · show (1 : Int) ≤ 128; decide
  · show (1 : Int) ≤ 8192 - (2 + (i : Int)); omega
theorem RootOk.right {M : List Nd.N} {k : Nd.T3} {h : Int} {m : List E} (hr : RootOk M k h m) : RightP M k.1 h 0 512 ∧ 0 ≤ h ∧ h < 6 := by
  obtain ⟨hn, rfl, h5, hg, -⟩ := hr
  exact ⟨⟨by omega, by omega, by rw [Int.toNat_natCast]; exact hg⟩, by omega, by omega⟩
theorem RootOk.mor {st st' : MSt} {k : Nd.T3} {h : Int} {m : List E} {n : Nat} (hr : RootOk st.L k h m) (hm : Mor st st' n) : RootOk st'.L k h m := by
  obtain ⟨l, e, -⟩ := hm.L
  rw [e]
  exact hr.app l
end Tr
theorem lg_app {B p rb : Nat} {w0 W w8 : World} {X : Nat → Prop} {st : Tr.MSt} {u v8 : Value} (h : LG B w0 p W X (fun b => b = rb ∨ u.ownBlock = some b) st) (hg : W.grownBy w8 u.ownBlock) (h3 : v8.ownBlock = u.ownBlock ∨ v8.ownBlock = some W.heap.size) (hlt : ∀ b, v8.ownBlock = some b → b < w8.heap.size) : LG B w0 p w8 X (fun b => b = rb ∨ v8.ownBlock = some b) st := by
  have hc : Chg (fun b => b = rb ∨ u.ownBlock = some b) W w8 := ⟨hg.os, hg.tape, hg.output, hg.size, fun i hi hn => hg.block i hi fun e => hn (.inr e.symm)⟩
  have h1 := h.own hc
  rcases h3 with h3 | h3
  · rw [h3]; exact h1
  · have hX : ¬ X W.heap.size := h.fresh.1
    have h2 := h1.add (b := W.heap.size) h.sz (hlt _ h3) hX
    exact h2.less fun b hb => hb.elim (fun e => .inl (.inl e)) fun e => .inr (by rw [h3] at e; injection e with e; exact e.symm)
theorem own_ge {w : World} {B n e size : Nat} {v : Value} {xs : List Value} (h : w.ownsRow (B + 1) e size v n xs) : ∀ b, v.ownBlock = some b → b ≠ B := fun b hb he => by
  have := (h.lt b hb).1
  omega
/-- Where the first loop stands: roots so far, the one now. -/
structure RiI (B : Nat) (w0 : World) (p rb : Nat) (a k i : Nat) (l : List (Nd.T3 × Int)) (kk : Nd.T3) (hh : Int) (u : Value) (w : World) (X : Nat → Prop) (st : Tr.MSt) : Prop where
  lg : LG B w0 p w X (fun b => b = rb ∨ u.ownBlock = some b) st
  blk : Blk w rb 66 #[.int .i64 kk.1, .int .i64 kk.2.1, .int .i64 kk.2.2, .int .i64 hh]
  row : w.ownsRow (rb + 1) 66 4 u l.length (rcs l)
  old : ∀ j, j < l.length → Tr.RootOk st.L (l.getD j rtZ).1 (l.getD j rtZ).2 (Tr.puts [] (Tr.rL a k j))
  now : Tr.RootOk st.L kk hh (Tr.puts [] (Tr.rL a k i))
  calm : Tr.Calm st (1 + 21 * i)
section
variable {B p rb a k i : Nat} {w0 w w' : World} {X X' : Nat → Prop} {st st' : Tr.MSt} {l : List (Nd.T3 × Int)} {kk k' : Nd.T3} {hh h' : Int} {u v8 : Value}
theorem RiI.below (h : RiI B w0 p rb a k i l kk hh u w X st) (hb : Below w.heap.size w w') : RiI B w0 p rb a k i l kk hh u w' X st :=
  ⟨h.lg.below hb, h.blk.keep (hb.block rb h.blk.lt), own_keep h.row fun b _ hl => hb.block b hl, h.old, h.now, h.calm⟩
theorem RiI.app (h : RiI B w0 p rb a k i l kk hh u w X st) (hl : l.length = i) {C : Array Value} {w8 : World}
    (a1 : w8.ownsRow (rb + 1) 66 4 v8 (l.length + 1) (rcs l ++ rcs [(kk, hh)])) (a2 : (w.alloc (.cells C 66)).grownBy w8 u.ownBlock) (a3 : v8.ownBlock = u.ownBlock ∨ v8.ownBlock = some (w.alloc (.cells C 66)).heap.size) :
    RiI B w0 p rb a k i (l ++ [(kk, hh)]) kk hh v8 w8 X st := by
  have h0 := h.below (below_alloc1 w (.cells C 66))
  refine ⟨lg_app h0.lg a2 a3 fun b hb => (a1.lt b hb).2, h0.blk.keep (a2.block rb h0.blk.lt fun e => own_ge h.row rb e.symm rfl), ?_, ?_, h.now, h.calm⟩
  · rw [List.length_append, rcs_app]
    exact a1
  · intro j hj
    rw [List.length_append] at hj
    have hj : j < l.length + 1 := hj
    rw [List.getD_eq_getElem?_getD]
    rcases Nat.lt_or_ge j l.length with hjl | hjl
    · rw [List.getElem?_append_left hjl, ← List.getD_eq_getElem?_getD]
      exact h.old j hjl
    · have e : j = l.length := by omega
      rw [e, List.getElem?_append_right (Nat.le_refl _), Nat.sub_self, hl]
      exact h.now
theorem RiI.next (h : RiI B w0 p rb a k i l kk hh u w X st) (hr : MRep p w' X' st') (hs : Stp w X w' X') (hm : ∃ q, Tr.Mor st st' q ∧ q ≤ 15 * 1 + 6) (ok : Tr.RootOk st'.L k' h' (Tr.puts (Tr.puts [] (Tr.rL a k i)) [Tr.rE a k i])) :
    ∃ s1 s2 s3 s4, w'.setCell ⟨rb, 0, none⟩ (.int .i64 k'.1) = s1 ∧ s1.setCell ⟨rb, 1, none⟩ (.int .i64 k'.2.1) = s2 ∧ s2.setCell ⟨rb, 2, none⟩ (.int .i64 k'.2.2) = s3 ∧ s3.setCell ⟨rb, 3, none⟩ (.int .i64 h') = s4 ∧
      (w'.frozen? ⟨rb, 0, none⟩ = false ∧ s1.frozen? ⟨rb, 1, none⟩ = false ∧ s2.frozen? ⟨rb, 2, none⟩ = false ∧ s3.frozen? ⟨rb, 3, none⟩ = false) ∧
      (w'.cell? ⟨rb, 0, none⟩ = some (.int .i64 kk.1) ∧ s1.cell? ⟨rb, 1, none⟩ = some (.int .i64 kk.2.1) ∧ s2.cell? ⟨rb, 2, none⟩ = some (.int .i64 kk.2.2) ∧ s3.cell? ⟨rb, 3, none⟩ = some (.int .i64 hh)) ∧
      RiI B w0 p rb a k (i + 1) l k' h' u s4 X' st' := by
  have hb : Blk w' rb 66 #[.int .i64 kk.1, .int .i64 kk.2.1, .int .i64 kk.2.2, .int .i64 hh] := h.blk.keep (h.lg.keeps hs (.inl rfl))
  obtain ⟨s1, s2, s3, s4, e1, e2, e3, e4, f, c, b, hc⟩ := blk_st4 hb (.int .i64 k'.1) (.int .i64 k'.2.1) (.int .i64 k'.2.2) (.int .i64 h')
  have hlg := (h.lg.stp hr hs).own (hc.mono fun b hb => .inl hb)
  obtain ⟨q, hq, hq6⟩ := hm
  refine ⟨s1, s2, s3, s4, e1, e2, e3, e4, f, c, hlg, b, own_keep (own_keep h.row fun b hb hl => h.lg.keeps hs (.inr hb)) fun b hb hl => hc.block b hl (own_ge h.row b hb), fun j hj => (h.old j hj).mor hq, ?_, (h.calm.mor hq).mono (by omega)⟩
  rw [Tr.rises_next]
  exact ok
theorem RiI.stp (h : RiI B w0 p rb a k i l kk hh u w X st) (hr : MRep p w' X' st') (hs : Stp w X w' X') (hm : Tr.Mor st st' 0) : RiI B w0 p rb a k i l kk hh u w' X' st' :=
  ⟨h.lg.stp hr hs, h.blk.keep (h.lg.keeps hs (.inl rfl)), own_keep h.row fun _ hb _ => h.lg.keeps hs (.inr hb), fun j hj => (h.old j hj).mor hm, h.now.mor hm, h.calm.mor hm⟩
theorem RiI.cells {g d n j : Nat} {r : Nd.T3 × Int} (h : RiI B w0 p rb a k i l kk hh (.slice (some ⟨g, 0, none⟩) n d) w X st) (hn : l.length = n) (hj : j < l.length) (hr : l.getD j rtZ = r) : w.cell? ⟨g, j * 4, none⟩ = some (.int .i64 r.1.1) ∧ w.cell? ⟨g, j * 4 + 1, none⟩ = some (.int .i64 r.1.2.1) ∧ w.cell? ⟨g, j * 4 + 2, none⟩ = some (.int .i64 r.1.2.2) ∧ w.cell? ⟨g, j * 4 + 3, none⟩ = some (.int .i64 r.2) := by
  have hrow := h.row
  rw [hn] at hrow
  obtain ⟨g', c', e, c⟩ := roots_at hrow hj hn
  injection e with e
  injection e with e
  injection e with e
  subst e
  subst hr
  exact c
end
set_option maxRecDepth 8000 in
set_option maxHeartbeats 16000000 in
theorem trises_any (ma sa fa : Nat) (w : World) (hma : ma < 256) (hsa : sa < 256) (hfa : fa < 65536) : Calls Try.prog 15 #[.int .u8 (ma : Int), .int .u8 (sa : Int), .int .u16 (fa : Int)] w fun e w' => e = .returned (.bool true) ∧ Below w.heap.size w w' := by
  have HAw := Lib.hid (tawake_any w)
  obtain ⟨B, hB⟩ : ∃ B, w.heap.size = B := ⟨_, rfl⟩
  rw [hB]
  go_enter Try.func15, Try.ntmps15
  go_upto_region 3 with (go_at_call 30; (with_reducible refine HAw.out.mono ?_); rintro e wa ⟨rfl, ba⟩; (have BA := Lib.hid ba); clear ba)
  have m1 : (0 : Int) ≤ (ma : Int) ∧ (ma : Int) < 256 := by omega
  have m2 : (0 : Int) ≤ (sa : Int) ∧ (sa : Int) < 256 := by omega
  have t1 : (ma : Int).tmod 40 = ((ma % 40 : Nat) : Int) := (Int.ofNat_tmod ma 40).symm
  have t2 : (sa : Int).tmod 64 = ((sa % 64 : Nat) : Int) := (Int.ofNat_tmod sa 64).symm
  obtain ⟨nn, hnn⟩ : ∃ n, ma % 40 = n := ⟨_, rfl⟩
  obtain ⟨sk, hsk⟩ : ∃ n, sa % 64 = n := ⟨_, rfl⟩
  rw [hnn] at t1
  rw [hsk] at t2
  have b1 : nn < 40 := by omega
  have b2 : sk < 64 := by omega
  have b1' : (0 : Int) ≤ (nn : Int) ∧ (nn : Int) < 40 := by omega
  have b2' : (0 : Int) ≤ (sk : Int) ∧ (sk : Int) < 64 := by omega
  go_upto_region 4 with fail
  have e1 : (1 : Int) + (nn : Int) = ((nn + 1 : Nat) : Int) := by omega
  have e2 : (1 : Int) + 2 * (sk : Int) = ((2 * sk + 1 : Nat) : Int) := by omega
  obtain ⟨nq, hnq⟩ : ∃ n, nn + 1 = n := ⟨_, rfl⟩
  obtain ⟨kq, hkq⟩ : ∃ n, 2 * sk + 1 = n := ⟨_, rfl⟩
  rw [hnq] at e1
  rw [hkq] at e2
  rw [e1, e2]
  have b3 : nq ≤ 40 := by omega
  have Hsk := Lib.hid b2
  have Hkq := Lib.hid hkq
  clear e1 e2 t1 t2 hnn hsk b1 b2 b1' b2' m1 m2 hnq hkq hma hsa
  have b4 : kq ≤ 127 := by have := Hkq.out; have := Hsk.out; omega
  have b3' : (0 : Int) ≤ (nq : Int) ∧ (nq : Int) ≤ 40 := by omega
  have b4' : (0 : Int) ≤ (kq : Int) ∧ (kq : Int) ≤ 127 := by omega
  have b5' : (0 : Int) ≤ (fa : Int) ∧ (fa : Int) < 65536 := by omega
  go_upto_region 5 with fail
  obtain ⟨p, hp⟩ : ∃ p, wa.heap.size = p := ⟨_, rfl⟩
  obtain ⟨W1, hW1⟩ : ∃ W, wa.alloc (.cells #[.slice none 0 0, .int .i64 0, .int .i64 0, .int .i64 0, .int .i64 0] 64) = W := ⟨_, rfl⟩
  rw [hW1, hp]
  have N1 := Lib.hid (show LG B w p W1 (fun b => b = p) (fun _ => False) ⟨[], 0, 0, 0, 0⟩ from by
    have h := lg_start (w0 := w) (w := wa) BA.out
    rw [hW1, hp, hB] at h
    exact h)
  have H0 := Lib.hid (tempty N1.out.rep Tr.calm0 (by decide))
  unfold memV at H0
  clear hW1 hp hB
  go_upto_region 6 with (go_at_call 32; (with_reducible refine H0.out.mono ?_); rintro e w2 ⟨X2, s2, k2, h2, rfl, r2, t2, m2, o2⟩; unfold Tr.rootV; dsimp only; (have N2 := Lib.hid (N1.out.stp r2 t2)); (have O2 := Lib.hid o2); (have M2 := Lib.hid m2); clear r2 t2 m2 o2)
  obtain ⟨rb, hrb⟩ : ∃ b, w2.heap.size = b := ⟨_, rfl⟩
  obtain ⟨W2, hW2⟩ : ∃ W, w2.alloc (.cells #[.int .i64 k2.1, .int .i64 k2.2.1, .int .i64 k2.2.2, .int .i64 h2] 66) = W := ⟨_, rfl⟩
  rw [hW2, hrb]
  have P0 := Lib.hid (show RiI B w p rb fa kq 0 [] k2 h2 (.slice none 0 0) W2 X2 s2 from by
    obtain ⟨hl, hb⟩ := N2.out.new 66 #[.int .i64 k2.1, .int .i64 k2.2.1, .int .i64 k2.2.2, .int .i64 h2]
    rw [hW2, hrb] at hl
    rw [hW2, hrb] at hb
    obtain ⟨q, hm, hq⟩ := M2.out
    exact ⟨hl.less fun b h => h.elim .inr (fun h => (by cases h)), hb, World.ownsRow_nil _ _ _ _, fun j hj => absurd hj (Nat.not_lt_zero j), O2.out, (Tr.calm0.mor hm).mono (by omega)⟩)
  clear hrb hW2 N2 N1 M2 O2 H0
  obtain ⟨hi0, hz0, hs0, hb0⟩ := root_parts.choose_spec
  go_wp2_with fail
  go_loopw [11, 12, 13] (fun v11 v12 v13 wx => ∃ i : Nat, v11 = .int .i64 0 ∧ v13 = .int .i64 (i : Int) ∧ i ≤ nq ∧ ∃ l kk hh X st, l.length = i ∧ RiI B w p rb fa kq i l kk hh v12 wx X st) (fun _ _ v13 _ => nq - (intOf v13).toNat)
  case atStart => exact ⟨0, rfl, rfl, Nat.zero_le _, _, _, _, _, _, rfl, P0.out⟩
  case round =>
    clear P0
    rename World => wr
    obtain ⟨i, rfl, rfl, hi, l, kk, hh, X, st, hl, hP⟩ := hrel
    have HP := Lib.hid hP
    have Hl := Lib.hid hl
    clear hP hl
    by_cases hin : i < nq
    · have z0 : decide ((i : Int) < (nq : Int)) = true := by rw [decide_eq_true_eq]; omega
      have z0' : decide (i < nq) = true := decide_eq_true hin
      have hii : (0 : Int) ≤ (i : Int) ∧ (i : Int) < 40 := by omega
      have c0 := HP.out.blk.cell 0
      have c1 := HP.out.blk.cell 1
      have c2 := HP.out.blk.cell 2
      have c3 := HP.out.blk.cell 3
      obtain ⟨D, d, rfl⟩ := own_slice HP.out.row
      obtain ⟨x, hx⟩ : ∃ x, i * kq = x := ⟨_, rfl⟩
      have hx1 : x ≤ 39 * 127 := by rw [← hx]; exact Nat.mul_le_mul (by omega) b4
      have hx2 : (i : Int) * (kq : Int) = (x : Int) := by rw [← hx]; exact (Int.natCast_mul i kq).symm
      have hx3 : (0 : Int) ≤ (x : Int) ∧ (x : Int) ≤ 4953 := by omega
      have hx4 : ((fa : Int) + (x : Int)).tmod 512 = Tr.rk fa kq i := by unfold Tr.rk; rw [hx]; exact (Int.ofNat_tmod (fa + x) 512).symm
      have hky0 : 0 ≤ Tr.rk fa kq i ∧ Tr.rk fa kq i < 512 := by unfold Tr.rk; omega
      have Hx := Lib.hid hx
      clear hx
      obtain ⟨ky, hky⟩ : ∃ y, Tr.rk fa kq i = y := ⟨_, rfl⟩
      rw [hky] at hx4 hky0
      have Hky := Lib.hid hky
      clear hky hx1
      have RowW := Lib.hid (fun (C : Array Value) => own_keep (w' := wr.alloc (.cells C 66)) HP.out.row fun b _ hlt => Below.heap_alloc wr _ b hlt)
      go_upto_region 13 with (at_builtin; refine wpList_append_sls (base := rb + 1) _ rfl (.tmp 46) (.tmp 48) _ rfl Try.underlying72 hi0 hz0 hs0 hb0 rfl (by decide) rfl (RowW.out _) (m := 1) (news := rcs [(kk, hh)]) rfl rfl (fun h => by cases h) (Nat.le_refl _) sl_fourR (rcs_one _) (by unfold maxLen; have := Hl.out; omega) (by have := Hl.out; omega) (by have := HP.out.blk.lt; simp; omega) ?_; intro v8 w8 a1 a2 a3; (have P8 := Lib.hid (HP.out.app Hl.out a1 a2 a3)); clear a1 a2 a3)
      clear c0 c1 c2 c3
      have c0 := P8.out.blk.cell 0
      have c1 := P8.out.blk.cell 1
      have c2 := P8.out.blk.cell 2
      have c3 := P8.out.blk.cell 3
      obtain ⟨g9, hg9⟩ : ∃ g, w8.heap.size = g := ⟨_, rfl⟩
      obtain ⟨W9, hW9⟩ : ∃ W, w8.alloc (.cells #[.int .i64 ky, .int .i64 (2 + (i : Int)), .int .i64 1, .int .i64 0, .int .i64 3] 84) = W := ⟨_, rfl⟩
      have P9 := Lib.hid (P8.out.below (hW9 ▸ below_alloc1 w8 _))
      have H9 := Lib.hid (by
        have hs := slc_new (w := w8) (t := 84) #[.int .i64 ky, .int .i64 (2 + (i : Int)), .int .i64 1, .int .i64 0, .int .i64 3] 1
        rw [hW9, hg9] at hs
        exact tput P9.out.lg.rep P9.out.calm P9.out.now (L := [Tr.rE fa kq i]) (n := 1) (by rw [show evs [Tr.rE fa kq i] = [.int .i64 ky, .int .i64 (2 + (i : Int)), .int .i64 1, .int .i64 0, .int .i64 3] from by show [Value.int .i64 (Tr.rk fa kq i), _, _, _, _] = _; rw [Hky.out]; rfl]; exact hs) rfl (by omega) (fun e he => by rw [List.mem_singleton.1 he]; exact Tr.rE_ok (by omega)))
      unfold memV Tr.rootV at H9
      go_upto_region 14 with (go_at_call 39; (with_reducible refine H9.out.mono ?_); rintro e w10 ⟨X10, s10, k10, h10, rfl, r10, t10, m10, o10⟩; unfold Tr.rootV; (obtain ⟨v1, v2, v3, v4, q1, q2, q3, q4, ⟨f1, f2, f3, f4⟩, ⟨d1, d2, d3, d4⟩, P10⟩ := P9.out.next r10 t10 m10 o10); (have P10 := Lib.hid P10); clear r10 t10 m10 o10)
      clear c0 c1 c2 c3 d1 d2 d3 d4 f1 f2 f3 f4 hx4 hky0 hW9 hg9
      have c0 := P10.out.blk.cell 0
      have c1 := P10.out.blk.cell 1
      have c2 := P10.out.blk.cell 2
      have c3 := P10.out.blk.cell 3
      have RG := Lib.hid P10.out.now.right
      have HR := Lib.hid (right_is p s10 h10.toNat k10 h10 0 512 true P10.out.lg.rep P10.out.now.kr (by have := RG.out.2; omega) rfl (iff_of_true rfl RG.out.1))
      go_wp2_with (go_at_call 34; (with_reducible refine HR.out.mono ?_); rintro e w11 ⟨rfl, b11⟩; (have P11 := Lib.hid (P10.out.below b11)); clear b11)
      go_roundw
      case rel => exact ⟨i + 1, rfl, by go_num, by omega, _, _, _, _, _, by rw [List.length_append, Hl.out]; rfl, P11.out⟩
      case measure => simp [intOf]; omega
    · have hiq : i = nq := by omega
      subst hiq
      have z0 : decide ((i : Int) < (i : Int)) = false := by rw [decide_eq_false_iff_not]; omega
      have z0' : decide (i < i) = false := by rw [decide_eq_false_iff_not]; omega
      go_wp2_with fail
      clear z0 z0' hin hi
      go_loopw [14] (fun v14 wx => ∃ j : Nat, v14 = .int .i64 (j : Int) ∧ j ≤ i ∧ ∃ X st, RiI B w p rb fa kq i l kk hh u12 wx X st) (fun v14 _ => i - (intOf v14).toNat)
      case atStart => exact ⟨0, rfl, Nat.zero_le _, _, _, HP.out⟩
      case round =>
        clear HP
        rename World => wx
        obtain ⟨j, rfl, hj, Y, sy, hP⟩ := hrel
        have HP := Lib.hid hP
        clear hP
        by_cases hji : j < i
        · have z0 : decide ((j : Int) < (i : Int)) = true := by rw [decide_eq_true_eq]; omega
          have z0' : decide (j < i) = true := decide_eq_true hji
          have hii : (0 : Int) ≤ (j : Int) ∧ (j : Int) < (i : Int) := by omega
          obtain ⟨g, d, e12⟩ := own_some HP.out.row (by rw [Hl.out]; omega)
          rw [Hl.out] at e12
          subst e12

          have hjl : j < l.length := by rw [Hl.out]; exact hji
          obtain ⟨r0, hr0⟩ : ∃ r, l.getD j rtZ = r := ⟨_, rfl⟩
          have C19 := HP.out.cells Hl.out hjl hr0
          have Ok := Lib.hid (show Tr.RootOk sy.L r0.1 r0.2 (Tr.puts [] (Tr.rL fa kq j)) from hr0 ▸ HP.out.old j hjl)
          have Hr0 := Lib.hid hr0
          have Hjl := Lib.hid hjl
          clear hr0 hjl
          obtain ⟨⟨ra, rc, re⟩, rh⟩ := r0
          dsimp only at C19 Ok
          obtain ⟨c0, c1, c2, c3⟩ := C19
          have hlen : (Tr.puts [] (Tr.rL fa kq j)).length = j := by rw [← Hkq.out]; exact Tr.rises_len Hsk.out j (by omega)
          have hget : Tr.get (Tr.puts [] (Tr.rL fa kq j)) (Tr.rk fa kq j) = none := by rw [← Hkq.out]; exact Tr.rises_get Hsk.out (by omega)
          have Hget := Lib.hid hget
          have H19 := Lib.hid (show Calls Try.prog 35 #[memV p, Tr.rootV (ra, rc, re) rh] wx (fun e w' => ∃ X' st' A c, e = .returned (.tuple #[.slice A j c, .int .i64 0]) ∧ MRep p w' X' st' ∧ Stp wx Y w' X' ∧ Tr.KS sy st') from
            (tall HP.out.lg.rep HP.out.calm.bl Ok.out).mono fun e w' he => by
              obtain ⟨X', st', A, c, e1, e2, e3, e4, -⟩ := he
              rw [hlen] at e1
              exact ⟨X', st', A, c, e1, e2, e3, e4⟩)
          unfold memV Tr.rootV at H19
          clear hlen hget
          obtain ⟨x, hx⟩ : ∃ x, j * kq = x := ⟨_, rfl⟩
          have hx1 : x ≤ 39 * 127 := by rw [← hx]; exact Nat.mul_le_mul (by omega) b4
          have hx2 : (j : Int) * (kq : Int) = (x : Int) := by rw [← hx]; exact (Int.natCast_mul j kq).symm
          have hx3 : (0 : Int) ≤ (x : Int) ∧ (x : Int) ≤ 4953 := by omega
          have hx4 : ((fa : Int) + (x : Int)).tmod 512 = Tr.rk fa kq j := by unfold Tr.rk; rw [hx]; exact (Int.ofNat_tmod (fa + x) 512).symm
          have hky0 : 0 ≤ Tr.rk fa kq j ∧ Tr.rk fa kq j < 512 := by unfold Tr.rk; omega
          clear hx hx1
          obtain ⟨ky, hky⟩ : ∃ y, Tr.rk fa kq j = y := ⟨_, rfl⟩
          rw [hky] at hx4 hky0 Hget
          clear hky
          go_upto_region 20 with (go_at_call 35; (with_reducible refine H19.out.mono ?_); rintro e w20 ⟨Y20, s20, A20, d20, rfl, r20, t20, m20⟩; (have P20 := Lib.hid (HP.out.stp r20 t20 m20.mor)); (have Ok20 := Lib.hid (Ok.out.mor m20.mor)); clear r20 t20 m20)
          clear c0 c1 c2 c3
          obtain ⟨c0, c1, c2, c3⟩ := P20.out.cells Hl.out Hjl.out Hr0.out
          dsimp only at c0 c1 c2 c3
          have H20 := Lib.hid (show Calls Try.prog 37 #[memV p, Tr.rootV (ra, rc, re) rh, .int .i64 ky] w20 (fun e w' => ∃ X' st', e = .returned (Tr.entV none) ∧ MRep p w' X' st' ∧ Stp w20 Y20 w' X' ∧ Tr.KS s20 st') from
            (tget P20.out.lg.rep P20.out.calm.bl Ok20.out hky0).mono fun e w' he => by
              rw [Hget.out] at he
              exact he)
          unfold memV Tr.rootV at H20
          go_upto_region 21 with (go_at_call 37; (with_reducible refine H20.out.mono ?_); rintro e w21 ⟨Y21, s21, rfl, r21, t21, m21⟩; dsimp only [Tr.entV, ev, evv, Tr.z]; (have P21 := Lib.hid (P20.out.stp r21 t21 m21.mor)); clear r21 t21 m21)
          obtain ⟨W21, hW21⟩ : ∃ W, w21.alloc (.cells #[.int .i64 0, .int .i64 0, .int .i64 0, .int .i64 0, .int .i64 0] 84) = W := ⟨_, rfl⟩
          rw [hW21]
          have P22 := Lib.hid (P21.out.below (hW21 ▸ below_alloc1 w21 _))
          clear hW21 c0 c1 c2 c3
          go_wp2_with fail
          go_roundw
          case rel => exact ⟨j + 1, by go_num, by omega, _, _, P22.out⟩
          case measure => simp [intOf]; omega
        · have hjq : j = i := by omega
          subst hjq
          have z0 : decide ((j : Int) < (j : Int)) = false := by rw [decide_eq_false_iff_not]; omega
          have z0' : decide (j < j) = false := by rw [decide_eq_false_iff_not]; omega
          have Fin := Lib.hid HP.out.lg.bel
          go_wp2_with fail
          go_ret
          exact ⟨rfl, Fin.out⟩
end Go.Proofs.Ytfjhimnjipdajaa
