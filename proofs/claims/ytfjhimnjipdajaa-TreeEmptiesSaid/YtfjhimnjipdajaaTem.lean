/- TreeEmpties: what is put and cut, plainly; the calls of a tree whose memory may be full. -/
import Derived.Test.YtfjhimnjipdajaaTlg
import Derived.Test.YtfjhimnjipdajaaTri
import Derived.Test.YtfjhimnjipdajaaTrcJ
import Derived.Test.YtfjhimnjipdajaaNdd
namespace Go.Proofs.Ytfjhimnjipdajaa
open Go.RowKit
namespace Tr
def eK (a k : Nat) : Int := ((k * a % 512 : Nat) : Int)
def eE (a k : Nat) : E := ⟨eK a k, ((2 : Int) + k, 1, 0), 1⟩
def eL (a n : Nat) : List E := (List.range n).map (eE a)
def eS (a i c : Nat) : List E := (List.range c).map fun t => eE a (i + t)
def kS (b i c : Nat) : List Int := (List.range c).map fun t => eK b (i + t)
theorem eL_seg (a i c : Nat) : eL a (i + c) = eL a i ++ eS a i c := by
  unfold eL eS
  rw [List.range_add, List.map_append, List.map_map]
  rfl
theorem eL_next (a n : Nat) : eL a (n + 1) = eL a n ++ [eE a n] := by unfold eL; rw [List.range_succ, List.map_append]; rfl
theorem eS_next (a i c : Nat) : eS a i (c + 1) = eS a i c ++ [eE a (i + c)] := by unfold eS; rw [List.range_succ, List.map_append]; rfl
theorem kS_next (a i c : Nat) : kS a i (c + 1) = kS a i c ++ [eK a (i + c)] := by unfold kS; rw [List.range_succ, List.map_append]; rfl
theorem eS_len (a i c : Nat) : (eS a i c).length = c := by unfold eS; rw [List.length_map, List.length_range]
theorem kS_len (a i c : Nat) : (kS a i c).length = c := by unfold kS; rw [List.length_map, List.length_range]
theorem puts_app (m l1 l2 : List E) : puts m (l1 ++ l2) = puts (puts m l1) l2 := by unfold puts; exact List.foldl_append
theorem puts_seg (a i c : Nat) : puts (puts [] (eL a i)) (eS a i c) = puts [] (eL a (i + c)) := by rw [eL_seg, puts_app]
theorem odd_cop (s : Nat) : Nat.Coprime 512 (2 * s + 1) := by
  have h2 : Nat.Coprime 2 (2 * s + 1) := by
    unfold Nat.Coprime
    rw [Nat.gcd_rec, show (2 * s + 1) % 2 = 1 by omega, Nat.gcd_one_left]
  exact Nat.Coprime.pow_left 9 h2
theorem eK_ne {s i j : Nat} (hij : i < j) (hj : j < 512) : eK (2 * s + 1) i ≠ eK (2 * s + 1) j := by
  intro h
  have h := Int.ofNat.inj h
  have e : j * (2 * s + 1) = i * (2 * s + 1) + (j - i) * (2 * s + 1) := by rw [← Nat.add_mul]; congr 1; omega
  rw [e] at h
  have hc := (odd_cop s).dvd_of_dvd_mul_right (m := j - i)
  obtain ⟨x, hx⟩ : ∃ x, i * (2 * s + 1) = x := ⟨_, rfl⟩
  obtain ⟨y, hy⟩ : ∃ y, (j - i) * (2 * s + 1) = y := ⟨_, rfl⟩
  rw [hx, hy] at h
  rw [hy] at hc
  have := Nat.le_of_dvd (by omega) (hc (Nat.dvd_of_mod_eq_zero (by omega)))
  omega
theorem em_len (s : Nat) : ∀ n : Nat, n ≤ 512 → (puts [] (eL (2 * s + 1) n)).length = n
  | 0, _ => rfl
  | n + 1, h => by
    rw [eL_next, puts_next, ins_len, if_neg (fun hh => by
      obtain ⟨e, he, hk⟩ := hit_mem hh
      rcases puts_mem he with h1 | h1
      · cases h1
      · obtain ⟨i, hi, rfl⟩ := List.mem_map.1 h1
        exact eK_ne (List.mem_range.1 hi) (by omega) hk), em_len s n (by omega)]
theorem eK_in (a k : Nat) : 0 ≤ eK a k ∧ eK a k < 512 := by unfold eK; omega
theorem eE_ok {a k : Nat} (hk : k < 512) : EOk (eE a k) := by
  refine ⟨eK_in a k, ⟨?_, ?_, ?_, ?_, ?_⟩, (show (0 : Int) ≤ 0 by decide), (show (0 : Int) < 8 by decide), (show (0 : Int) ≤ 1 by decide), (show (1 : Int) < 268435456 by decide)⟩
  · show (0 : Int) ≤ 2 + (k : Int); omega
  · show (2 : Int) + (k : Int) < 8192; omega
  · show (1 : Int) ≤ 1; decide
  · show (1 : Int) ≤ 128; decide
  · show (1 : Int) ≤ 8192 - (2 + (k : Int)); omega
theorem eS_ok {a i c : Nat} (h : i + c ≤ 512) : ∀ e ∈ eS a i c, EOk e := fun e he => by
  obtain ⟨t, ht, rfl⟩ := List.mem_map.1 he
  have := List.mem_range.1 ht
  exact eE_ok (by omega)
theorem kS_ok (b i c : Nat) : ∀ x ∈ kS b i c, 0 ≤ x ∧ x < 512 := fun x hx => by
  obtain ⟨t, ht, rfl⟩ := List.mem_map.1 hx
  exact eK_in _ _
/-- What is left has no key of those that were cut. -/
def Gone (b i : Nat) (m : List E) : Prop := ∀ e ∈ m, ∀ k, k < i → e.k ≠ eK b k
theorem gone_cuts {b i c : Nat} {m : List E} (h : Gone b i m) : Gone b (i + c) (cuts m (kS b i c)) := fun e he k hk hh => by
  obtain ⟨h1, h2⟩ := List.mem_filter.1 he
  rcases Nat.lt_or_ge k i with hki | hki
  · exact h e h1 k hki hh
  · have : e.k ∈ kS b i c := List.mem_map.2 ⟨k - i, List.mem_range.2 (by omega), by rw [hh]; congr 1; omega⟩
    rw [List.contains_iff_mem.2 this] at h2
    cases h2
theorem inv_ok : ((List.range 256).all fun s => (((2 * s + 1) ^ 127 % 512) * (2 * s + 1)) % 512 == 1) = true := by kernel_rfl
theorem gone_nil {s n : Nat} {m : List E} (hs : s < 256) (h : Gone (2 * s + 1) n m) (hn : 512 ≤ n) (hm : ∀ e ∈ m, 0 ≤ e.k ∧ e.k < 512) : m = [] := by
  rw [List.eq_nil_iff_forall_not_mem]
  intro e he
  obtain ⟨h0, h5⟩ := hm e he
  have h1 := List.all_eq_true.1 inv_ok s (List.mem_range.2 hs)
  have h1 : (((2 * s + 1) ^ 127 % 512) * (2 * s + 1)) % 512 = 1 := by simpa using h1
  obtain ⟨c, hc⟩ : ∃ c, (2 * s + 1) ^ 127 % 512 = c := ⟨_, rfl⟩
  rw [hc] at h1
  refine h e he (e.k.toNat * c % 512) (by have := Nat.mod_lt (e.k.toNat * c) (show 0 < 512 by decide); omega) ?_
  unfold eK
  rw [Nat.mod_mul_mod, Nat.mul_assoc, Nat.mul_mod, h1, Nat.mul_one, Nat.mod_mod]
  omega
theorem nodes_calm {st : MSt} {k : Nd.T3} {h : Int} {m : List E} (hb : st.bl = 0) (hr : RootOk st.L k h m) : ∃ st' q, walk mem nodesG h.toNat st (trunk k h) = (st', .ok (k :: q)) ∧ KS st st' := by
  obtain ⟨hn, rfl, h5, hg, hk, ho, hm⟩ := hr
  rw [Int.toNat_natCast]
  have hK : Able mem MSt.L fun st' => KS st st' ∧ st'.bl = 0 := ⟨fun {st' k} hp hi => mem_able.ok hp.2 hi, fun {st' k} hp => ⟨⟨hp.1.L, hp.1.sv, hp.1.bl, hp.1.bs⟩, hp.2⟩⟩
  obtain ⟨w1, w2, w3⟩ := walk_all mem_brings hK nodesG (h := hn) (st := st) (b := trunk k (hn : Int)) ⟨KS.refl st, hb⟩ rfl hg
  obtain ⟨q, hq⟩ : ∃ q, gath st.L nodesG hn (trunk k (hn : Int)) = k :: q := by
    cases hn with
    | zero => exact ⟨[], rfl⟩
    | succ n => exact ⟨_, rfl⟩
  rw [hq] at w1
  rcases e : walk mem nodesG hn st (trunk k (hn : Int)) with ⟨st', r⟩
  rw [e] at w1 w3
  dsimp only at w1
  subst w1
  exact ⟨st', q, rfl, w3.1⟩
end Tr
section
variable {p : Nat} {w : World} {X : Nat → Prop} {st : Tr.MSt} {k : Nd.T3} {h : Int} {m : List Tr.E} {N : Nat}
/-- A call that gives a root, or the answer that the memory is full. -/
def RtF (p : Nat) (w : World) (X : Nat → Prop) (st : Tr.MSt) (n : Nat) (m : List Tr.E) (e : Ending) (w' : World) : Prop := ∃ X' st' k' h' er, e = .returned (.tuple #[Tr.rootV k' h', .int .i64 er]) ∧ MRep p w' X' st' ∧ Stp w X w' X' ∧ (er = 7 ∨ er = 0 ∧ (∃ q, Tr.Mor st st' q ∧ q ≤ n) ∧ Tr.RootOk st'.L k' h' m)
theorem rtf_of {r : Tr.Res Tr.MSt (Nd.T3 × Int)} {n : Nat} {e : Ending} {w' : World} (hc : Tr.Calm st N) (he : RtR (memI p) w X r.1 r.2 e w') (hg : Tr.Ends r (fun st' q => (∃ j, Tr.Mor st st' j ∧ j ≤ n) ∧ Tr.RootOk st'.L q.1 q.2 m) (Tr.ErrC st n)) : RtF p w X st n m e w' := by
  rcases r with ⟨st', er | ⟨k', h'⟩⟩
  · obtain ⟨X', e1, e2, -, k', h', e3⟩ := he
    rcases hg.why with ⟨-, h6⟩ | ⟨rfl, -⟩
    · rw [hc.bl] at h6; exact absurd h6 (by decide)
    · exact ⟨X', st', k', h', 7, e3, e1, e2, .inl rfl⟩
  · obtain ⟨X', e1, e2, e3⟩ := he
    exact ⟨X', st', k', h', 0, e3, e1, e2, .inr ⟨rfl, hg.1, hg.2⟩⟩
theorem tputF (hr : MRep p w X st) (hc : Tr.Calm st N) (hk : Tr.RootOk st.L k h m) {L : List Tr.E} {A : Option Addr} {c n : Nat} (hl : SlC w w.heap.size A c n (evs L)) (hn : L.length = n) (hN : n ≤ 600) (hL : ∀ e ∈ L, Tr.EOk e) :
    Calls Try.prog 39 #[memV p, Tr.rootV k h, .slice A n c] w (RtF p w X st (15 * n + 6) (Tr.puts m L)) := by
  subst hn
  exact (put_any (memI p) inorder_any hr hl rfl (by omega) hk.kr fun _ => Tr.root_plok hk (Tr.edk_put hL)).mono fun e w' he => rtf_of hc he (Tr.put_good hk hL)
theorem tcutF (hr : MRep p w X st) (hc : Tr.Calm st N) (hk : Tr.RootOk st.L k h m) {ks : List Int} {A : Option Addr} {c n : Nat} (hl : SlC w w.heap.size A c n (ivs ks)) (hn : ks.length = n) (hN : n ≤ 600) (hL : ∀ x ∈ ks, 0 ≤ x ∧ x < 512) :
    Calls Try.prog 40 #[memV p, Tr.rootV k h, .slice A n c] w (RtF p w X st (15 * n + 6) (Tr.cuts m ks)) := by
  subst hn
  exact (cut_any (memI p) inorder_any hr hl rfl (by omega) hk.kr fun _ => Tr.root_plok hk (Tr.edk_cut hL)).mono fun e w' he => rtf_of hc he (Tr.cut_good hk hL)
theorem tnodes (hr : MRep p w X st) (hb : st.bl = 0) (hk : Tr.RootOk st.L k h m) : Calls Try.prog 41 #[memV p, Tr.rootV k h] w (fun e w' => ∃ X' st' q b o c, e = .returned (.tuple #[.slice (some ⟨b, o, none⟩) (q + 1) c, .int .i64 0]) ∧ q ≤ 1000000 ∧ MRep p w' X' st' ∧ Stp w X w' X' ∧ w'.cell? ⟨b, o, none⟩ = some (.int .i64 k.1) ∧ w'.cell? ⟨b, o + 1, none⟩ = some (.int .i64 k.2.1) ∧ w'.cell? ⟨b, o + 2, none⟩ = some (.int .i64 k.2.2)) := by
  refine (nodes_any (memI p) hr hk.kr).mono fun e w' he => ?_
  obtain ⟨st', q, h1, h2⟩ := Tr.nodes_calm hb hk
  have hq := walk_len (memI p) (nodV 0) (h := h.toNat) (st := st) (b := Tr.trunk k h) (r := k :: q) (by show (Tr.walk Tr.mem Tr.nodesG h.toNat st (Tr.trunk k h)).2 = _; rw [h1])
  have h5 := vk5 (h := h.toNat) (by obtain ⟨hn, rfl, h5, -⟩ := hk; omega)
  have h1 : Tr.walk (memI p).S Tr.nodesG h.toNat st (Tr.trunk k h) = (st', .ok (k :: q)) := h1
  rw [h1] at he
  obtain ⟨X', e1, e2, A, c, e3, e4⟩ := he
  obtain ⟨b, o, rfl, -, c0, c1, c2⟩ := e4.now.three (i := 0) (Nat.zero_lt_succ _)
  exact ⟨X', st', q.length, b, o, c, e3, by have : q.length + 1 ≤ Tr.vk h.toNat := hq; omega, e1, e2, c0, c1, c2⟩
end
/-- Where the loops stand: the root's box, the root that there is. -/
structure EmI (B : Nat) (w0 : World) (p rb : Nat) (kb : Nd.T3) (hb : Int) (kk : Nd.T3) (hh : Int) (m : List Tr.E) (w : World) (X : Nat → Prop) (st : Tr.MSt) : Prop where
  lg : LG B w0 p w X (fun b => b = rb) st
  blk : Blk w rb 66 #[.int .i64 kb.1, .int .i64 kb.2.1, .int .i64 kb.2.2, .int .i64 hb]
  now : Tr.RootOk st.L kk hh m
  calm : Tr.Calm st st.L.length
section
variable {B p rb : Nat} {w0 w w' : World} {X X' : Nat → Prop} {st st' : Tr.MSt} {kb kk k' : Nd.T3} {hb hh h' : Int} {m m' : List Tr.E}
theorem Tr.Calm.any {st : Tr.MSt} {N : Nat} (h : Tr.Calm st N) : Tr.Calm st st.L.length := ⟨h.bl, h.bs, h.inv, Nat.le_refl _⟩
theorem EmI.below (h : EmI B w0 p rb kb hb kk hh m w X st) (hw : Below w.heap.size w w') : EmI B w0 p rb kb hb kk hh m w' X st :=
  ⟨h.lg.below hw, h.blk.keep (hw.block rb h.blk.lt), h.now, h.calm⟩
theorem EmI.stp (h : EmI B w0 p rb kb hb kk hh m w X st) (hr : MRep p w' X' st') (hs : Stp w X w' X') {n : Nat} (hm : ∃ q, Tr.Mor st st' q ∧ q ≤ n) (ok : Tr.RootOk st'.L k' h' m') : EmI B w0 p rb kb hb k' h' m' w' X' st' :=
  ⟨h.lg.stp hr hs, h.blk.keep (h.lg.keeps hs rfl), ok, by obtain ⟨q, hq, -⟩ := hm; exact (h.calm.mor hq).any⟩
theorem EmI.ks (h : EmI B w0 p rb kb hb kk hh m w X st) (hr : MRep p w' X' st') (hs : Stp w X w' X') (hm : Tr.KS st st') : EmI B w0 p rb kb hb kk hh m w' X' st' :=
  h.stp hr hs (n := 0) ⟨0, hm.mor, Nat.le_refl _⟩ (by rw [hm.L]; exact h.now)
theorem EmI.store (h : EmI B w0 p rb kb hb kk hh m w X st) :
    ∃ s1 s2 s3 s4, w.setCell ⟨rb, 0, none⟩ (.int .i64 kk.1) = s1 ∧ s1.setCell ⟨rb, 1, none⟩ (.int .i64 kk.2.1) = s2 ∧ s2.setCell ⟨rb, 2, none⟩ (.int .i64 kk.2.2) = s3 ∧ s3.setCell ⟨rb, 3, none⟩ (.int .i64 hh) = s4 ∧
      (w.frozen? ⟨rb, 0, none⟩ = false ∧ s1.frozen? ⟨rb, 1, none⟩ = false ∧ s2.frozen? ⟨rb, 2, none⟩ = false ∧ s3.frozen? ⟨rb, 3, none⟩ = false) ∧
      (w.cell? ⟨rb, 0, none⟩ = some (.int .i64 kb.1) ∧ s1.cell? ⟨rb, 1, none⟩ = some (.int .i64 kb.2.1) ∧ s2.cell? ⟨rb, 2, none⟩ = some (.int .i64 kb.2.2) ∧ s3.cell? ⟨rb, 3, none⟩ = some (.int .i64 hb)) ∧
      EmI B w0 p rb kk hh kk hh m s4 X st := by
  obtain ⟨s1, s2, s3, s4, e1, e2, e3, e4, f, c, b, hc⟩ := blk_st4 h.blk (.int .i64 kk.1) (.int .i64 kk.2.1) (.int .i64 kk.2.2) (.int .i64 hh)
  exact ⟨s1, s2, s3, s4, e1, e2, e3, e4, f, c, h.lg.own hc, b, h.now, h.calm⟩
end
theorem sl_oneE {w : World} {a : Value} {t : TypeId} : Sl (w.alloc (.cells #[a] t)) (w.heap.size + 1) (some ⟨w.heap.size, 0, none⟩) [a] := .inr ⟨w.heap.size, 0, rfl, by omega, fun i hi => by
  have : i < 1 := hi
  have : i = 0 := by omega
  subst this
  exact (Blk.new w t _).cell 0⟩
theorem grow_n {w w1 w8 : World} {o : Obj} {row : Option Nat} (h : Below w.heap.size w w1) (g : (w1.alloc o).grownBy w8 row) (hr : ∀ k, row = some k → w.heap.size ≤ k) : Below w.heap.size w w8 :=
  (h.trans ((below_alloc1 w1 o).mono h.size)).grown g (by have := h.size; simp; omega) hr
set_option maxRecDepth 8000 in
set_option maxHeartbeats 16000000 in
theorem tempties_any (ta pa ba : Nat) (w : World) (hta : ta < 65536) (hpa : pa < 256) (hba : ba < 65536) : Calls Try.prog 10 #[.int .u16 (ta : Int), .int .u8 (pa : Int), .int .u16 (ba : Int)] w fun e w' => e = .returned (.bool true) ∧ Below w.heap.size w w' := by
  have HAw := Lib.hid (tawake_any w)
  obtain ⟨B, hB⟩ : ∃ B, w.heap.size = B := ⟨_, rfl⟩
  rw [hB]
  go_enter Try.func10, Try.ntmps10
  go_upto_region 4 with (go_at_call 30; (with_reducible refine HAw.out.mono ?_); rintro e wa ⟨rfl, ba⟩; (have BA := Lib.hid ba); clear ba)
  obtain ⟨p, hp⟩ : ∃ p, wa.heap.size = p := ⟨_, rfl⟩
  obtain ⟨W1, hW1⟩ : ∃ W, wa.alloc (.cells #[.slice none 0 0, .int .i64 0, .int .i64 0, .int .i64 0, .int .i64 0] 64) = W := ⟨_, rfl⟩
  rw [hW1, hp]
  have N1 := Lib.hid (show LG B w p W1 (fun b => b = p) (fun _ => False) ⟨[], 0, 0, 0, 0⟩ from by
    have h := lg_start (w0 := w) (w := wa) BA.out
    rw [hW1, hp, hB] at h
    exact h)
  have H0 := Lib.hid (tempty N1.out.rep Tr.calm0 (by decide))
  unfold memV at H0
  clear hW1 hp hB
  go_upto_region 5 with (go_at_call 32; (with_reducible refine H0.out.mono ?_); rintro e w2 ⟨X2, s2, k2, h2, rfl, r2, t2, m2, o2⟩; unfold Tr.rootV; dsimp only; (have N2 := Lib.hid (N1.out.stp r2 t2)); (have O2 := Lib.hid o2); (have M2 := Lib.hid m2); clear r2 t2 m2 o2)
  obtain ⟨rb, hrb⟩ : ∃ b, w2.heap.size = b := ⟨_, rfl⟩
  obtain ⟨W2, hW2⟩ : ∃ W, w2.alloc (.cells #[.int .i64 k2.1, .int .i64 k2.2.1, .int .i64 k2.2.2, .int .i64 h2] 66) = W := ⟨_, rfl⟩
  rw [hW2, hrb]
  have P0 := Lib.hid (show EmI B w p rb k2 h2 k2 h2 [] W2 X2 s2 from by
    obtain ⟨hl, hb⟩ := N2.out.new 66 #[.int .i64 k2.1, .int .i64 k2.2.1, .int .i64 k2.2.2, .int .i64 h2]
    rw [hW2, hrb] at hl
    rw [hW2, hrb] at hb
    obtain ⟨q, hm, hq⟩ := M2.out
    exact ⟨hl.less fun b h => .inr h, hb, O2.out, (Tr.calm0.mor hm).any⟩)
  clear hrb hW2 N2 N1 M2 O2 H0
  have m1 : (0 : Int) ≤ (ta : Int) ∧ (ta : Int) < 65536 := by omega
  have m2 : (0 : Int) ≤ (pa : Int) ∧ (pa : Int) < 256 := by omega
  have m3 : (0 : Int) ≤ (ba : Int) ∧ (ba : Int) < 65536 := by omega
  have t1 : (ta : Int).tmod 256 = ((ta % 256 : Nat) : Int) := (Int.ofNat_tmod ta 256).symm
  have t2 : (ba : Int).tmod 256 = ((ba % 256 : Nat) : Int) := (Int.ofNat_tmod ba 256).symm
  have t3 : (pa : Int).tmod 64 = ((pa % 64 : Nat) : Int) := (Int.ofNat_tmod pa 64).symm
  obtain ⟨sa, hsa⟩ : ∃ n, ta % 256 = n := ⟨_, rfl⟩
  obtain ⟨sb, hsb⟩ : ∃ n, ba % 256 = n := ⟨_, rfl⟩
  obtain ⟨nn, hnn⟩ : ∃ n, pa % 64 = n := ⟨_, rfl⟩
  rw [hsa] at t1
  rw [hsb] at t2
  rw [hnn] at t3
  have b1 : (0 : Int) ≤ (sa : Int) ∧ (sa : Int) < 256 := by omega
  have b2 : (0 : Int) ≤ (sb : Int) ∧ (sb : Int) < 256 := by omega
  have b3 : (0 : Int) ≤ (nn : Int) ∧ (nn : Int) < 64 := by omega
  have Hsb := Lib.hid (show sb < 256 by omega)
  go_upto_region 9 with fail
  have e1 : (1 : Int) + 2 * (sa : Int) = ((2 * sa + 1 : Nat) : Int) := by omega
  have e2 : (1 : Int) + 2 * (sb : Int) = ((2 * sb + 1 : Nat) : Int) := by omega
  have e3 : (1 : Int) + (nn : Int) = ((nn + 1 : Nat) : Int) := by omega
  obtain ⟨aq, haq⟩ : ∃ n, 2 * sa + 1 = n := ⟨_, rfl⟩
  obtain ⟨bq, hbq⟩ : ∃ n, 2 * sb + 1 = n := ⟨_, rfl⟩
  obtain ⟨nq, hnq⟩ : ∃ n, nn + 1 = n := ⟨_, rfl⟩
  rw [haq] at e1
  rw [hbq] at e2
  rw [hnq] at e3
  rw [e1, e2, e3]
  have Haq := Lib.hid haq
  have Hbq := Lib.hid hbq
  have a1 : 1 ≤ nq ∧ nq ≤ 64 := by omega
  have a2 : aq ≤ 511 := by omega
  have a3 : bq ≤ 511 := by omega
  have a1' : (1 : Int) ≤ (nq : Int) ∧ (nq : Int) ≤ 64 := by omega
  have a2' : (0 : Int) ≤ (aq : Int) ∧ (aq : Int) ≤ 511 := by omega
  have a3' : (0 : Int) ≤ (bq : Int) ∧ (bq : Int) ≤ 511 := by omega
  clear e1 e2 e3 haq hbq hnq m1 m2 m3 t1 t2 t3 hsa hsb hnn b1 b2 b3 hta hpa hba
  obtain ⟨hi0, hz0, hs0, hb0⟩ := tentry_parts.choose_spec
  obtain ⟨hi1, hz1, hs1, hb1⟩ := nint_parts.choose_spec
  go_wp2_with fail
  go_loopw [13] (fun v13 wx => ∃ i : Nat, v13 = .int .i64 (i : Int) ∧ i ≤ 575 ∧ ∃ kk hh X st, EmI B w p rb kk hh kk hh (Tr.puts [] (Tr.eL aq (min i 512))) wx X st) (fun v13 _ => 600 - (intOf v13).toNat)
  case atStart => exact ⟨0, rfl, Nat.zero_le _, _, _, _, _, P0.out⟩
  case round =>
    clear P0
    rename World => wr
    obtain ⟨i, rfl, hi, kk, hh, X, st, hP⟩ := hrel
    have HP := Lib.hid hP
    clear hP
    by_cases hin : i < 512
    · have z0 : decide ((i : Int) < 512) = true := by rw [decide_eq_true_eq]; omega
      have z0' : decide (i < 512) = true := decide_eq_true hin
      have hii : (0 : Int) ≤ (i : Int) ∧ (i : Int) < 512 := by omega
      rw [Nat.min_eq_left (Nat.le_of_lt hin)] at HP
      go_wp2_with fail
      clear z0 z0'
      go_loopw [14, 15] (fun v14 v15 wx => ∃ k : Nat, v15 = .int .i64 (k : Int) ∧ i ≤ k ∧ k ≤ i + nq ∧ k ≤ 512 ∧ Below wr.heap.size wr wx ∧ wx.ownsRow wr.heap.size 84 5 v14 (k - i) (evs (Tr.eS aq i (k - i)))) (fun _ v15 _ => 600 - (intOf v15).toNat)
      case atStart => exact ⟨i, rfl, Nat.le_refl _, by omega, by omega, Below.refl _ _, by rw [Nat.sub_self]; exact World.ownsRow_nil _ _ _ _⟩
      case round =>
        rename World => wx
        obtain ⟨k, rfl, hk1, hk2, hk3, hbk, hrow⟩ := hrel
        have HB := Lib.hid hbk
        have HR := Lib.hid hrow
        clear hbk hrow
        have hkk : (i : Int) ≤ (k : Int) ∧ (k : Int) ≤ 512 := by omega
        by_cases hke : k < i + nq
        · have z1 : decide ((k : Int) < (i : Int) + (nq : Int)) = true := by rw [decide_eq_true_eq]; omega
          have z1' : decide (k < i + nq) = true := decide_eq_true hke
          by_cases hk5 : k < 512
          · have z2 : decide ((k : Int) < 512) = true := by rw [decide_eq_true_eq]; omega
            have z2' : decide (k < 512) = true := decide_eq_true hk5
            obtain ⟨D, d, rfl⟩ := own_slice HR.out
            obtain ⟨x, hx⟩ : ∃ x, k * aq = x := ⟨_, rfl⟩
            have hx1 : x ≤ 511 * 511 := by rw [← hx]; exact Nat.mul_le_mul (by omega) a2
            have hx2 : (k : Int) * (aq : Int) = (x : Int) := by rw [← hx]; exact (Int.natCast_mul k aq).symm
            have hx3 : (0 : Int) ≤ (x : Int) ∧ (x : Int) ≤ 261121 := by omega
            have hx4 : (x : Int).tmod 512 = Tr.eK aq k := by unfold Tr.eK; rw [hx]; exact (Int.ofNat_tmod x 512).symm
            have hky0 := Tr.eK_in aq k
            clear hx hx1
            obtain ⟨ky, hky⟩ : ∃ y, Tr.eK aq k = y := ⟨_, rfl⟩
            rw [hky] at hx4 hky0
            have Hky := Lib.hid hky
            clear hky
            have RowW := Lib.hid (fun (C : Array Value) => own_keep (w' := wx.alloc (.cells C 84)) HR.out fun b _ hlt => Below.heap_alloc wx _ b hlt)
            have Nx := Lib.hid (show evs (Tr.eS aq i (k - i)) ++ [.int .i64 ky, .int .i64 (2 + (k : Int)), .int .i64 1, .int .i64 0, .int .i64 1] = evs (Tr.eS aq i (k + 1 - i)) from by
              rw [show k + 1 - i = k - i + 1 by omega, Tr.eS_next, evs_app, show i + (k - i) = k by omega]
              show _ = _ ++ [Value.int .i64 (Tr.eK aq k), _, _, _, _]
              rw [Hky.out]
              rfl)
            go_wp2_with (at_builtin; refine wpList_append_sls (base := wr.heap.size) _ rfl (.tmp 72) (.tmp 81) _ rfl Try.underlying79 hi0 hz0 hs0 hb0 rfl (by decide) rfl (RowW.out _) (m := 1) (news := [.int .i64 ky, .int .i64 (2 + (k : Int)), .int .i64 1, .int .i64 0, .int .i64 1]) rfl rfl (fun h => by cases h) (Nat.le_refl _) sl_five (by simp [Value.oneCell']) (by unfold maxLen; omega) (by omega) (by have := HB.out.size; simp; omega) ?_; intro v8 w8 j1 j2 j3; rw [Nx.out] at j1; (have R8 := Lib.hid j1); (have B8 := Lib.hid (grow_n HB.out j2 fun g hg => (HR.out.lt g hg).1)); clear j1 j2 j3)
            go_roundw
            case rel => exact ⟨k + 1, by go_num, by omega, by omega, by omega, B8.out, by rw [show k + 1 - i = k - i + 1 by omega] at *; exact R8.out⟩
            case measure => simp [intOf]; omega
          · skip
            have z2 : decide ((k : Int) < 512) = false := by rw [decide_eq_false_iff_not]; omega
            have z2' : decide (k < 512) = false := decide_eq_false hk5
            have hke' : k = min (i + nq) 512 := by omega
            have Px := Lib.hid (HP.out.below HB.out)
            obtain ⟨D, d, rfl⟩ := own_slice HR.out
            have H17 := Lib.hid (tputF Px.out.lg.rep Px.out.calm Px.out.now (L := Tr.eS aq i (k - i)) (A := D) (c := d) (n := k - i) ⟨own_len HR.out, own_none HR.out, own_slW' HR.out⟩ (Tr.eS_len _ _ _) (by omega) (Tr.eS_ok (by omega)))
            unfold memV Tr.rootV at H17
            have c0 := Px.out.blk.cell 0
            have c1 := Px.out.blk.cell 1
            have c2 := Px.out.blk.cell 2
            have c3 := Px.out.blk.cell 3
            have Hke := Lib.hid hke'
            clear hke'
            go_upto_region 18 with (go_at_call 39; (with_reducible refine H17.out.mono ?_); rintro e w17 ⟨X17, s17, k17, h17, er, rfl, r17, t17, o17⟩; unfold Tr.rootV; dsimp only; (have R17 := Lib.hid r17); (have T17 := Lib.hid t17); (have O17 := Lib.hid o17); clear r17 t17 o17)
            clear c0 c1 c2 c3
            obtain ⟨xb, hxb⟩ : ∃ b, w17.heap.size = b := ⟨_, rfl⟩
            obtain ⟨W17, hW17⟩ : ∃ W, w17.alloc (.cells #[.int .i64 k17.1, .int .i64 k17.2.1, .int .i64 k17.2.2, .int .i64 h17] 66) = W := ⟨_, rfl⟩
            rw [hW17, hxb]
            have B17 := Lib.hid (hW17 ▸ below_alloc1 w17 (.cells #[.int .i64 k17.1, .int .i64 k17.2.1, .int .i64 k17.2.2, .int .i64 h17] 66))
            have BX := Lib.hid (show Blk W17 xb 66 #[.int .i64 k17.1, .int .i64 k17.2.1, .int .i64 k17.2.2, .int .i64 h17] from by
              have := Blk.new w17 66 #[.int .i64 k17.1, .int .i64 k17.2.1, .int .i64 k17.2.2, .int .i64 h17]
              rw [hW17, hxb] at this
              exact this)
            have O := O17.out
            clear hxb hW17
            rcases O with rfl | ⟨rfl, om, ok⟩
            · have Fin := Lib.hid ((Px.out.lg.stp R17.out T17.out).below B17.out).bel
              go_wp2_with fail
              go_ret
              exact ⟨rfl, Fin.out⟩
            · have P18 := Lib.hid ((Px.out.stp R17.out T17.out om ok).below B17.out)
              clear om ok
              have c0 := BX.out.cell 0
              have c1 := BX.out.cell 1
              have c2 := BX.out.cell 2
              have c3 := BX.out.cell 3
              have RG := Lib.hid P18.out.now.right
              have HRt := Lib.hid (right_is p s17 h17.toNat k17 h17 0 512 true P18.out.lg.rep P18.out.now.kr (by have := RG.out.2; omega) rfl (iff_of_true rfl RG.out.1))
              go_wp2_with (go_at_call 34; (with_reducible refine HRt.out.mono ?_); rintro e w20 ⟨rfl, b20⟩; (have P20 := Lib.hid (P18.out.below b20)); (have Bx := BX.out.keep (b20.block xb BX.out.lt)); (have y0 := Bx.cell 0); (have y1 := Bx.cell 1); (have y2 := Bx.cell 2); (have y3 := Bx.cell 3); (obtain ⟨v1, v2, v3, v4, q1, q2, q3, q4, ⟨f1, f2, f3, f4⟩, ⟨d1, d2, d3, d4⟩, P21⟩ := P20.out.store); (have P21 := Lib.hid P21); clear b20 Bx c0 c1 c2 c3)
              go_roundw
              case rel => exact ⟨i + nq, by go_num, by omega, _, _, _, _, by rw [← Hke.out]; have := P21.out; rw [Tr.puts_seg, show i + (k - i) = k by omega] at this; exact this⟩
              case measure => simp [intOf]; omega
        · skip
          have z1 : decide ((k : Int) < (i : Int) + (nq : Int)) = false := by rw [decide_eq_false_iff_not]; omega
          have z1' : decide (k < i + nq) = false := decide_eq_false hke
          have hke' : k = min (i + nq) 512 := by omega
          have Px := Lib.hid (HP.out.below HB.out)
          obtain ⟨D, d, rfl⟩ := own_slice HR.out
          have H17 := Lib.hid (tputF Px.out.lg.rep Px.out.calm Px.out.now (L := Tr.eS aq i (k - i)) (A := D) (c := d) (n := k - i) ⟨own_len HR.out, own_none HR.out, own_slW' HR.out⟩ (Tr.eS_len _ _ _) (by omega) (Tr.eS_ok (by omega)))
          unfold memV Tr.rootV at H17
          have c0 := Px.out.blk.cell 0
          have c1 := Px.out.blk.cell 1
          have c2 := Px.out.blk.cell 2
          have c3 := Px.out.blk.cell 3
          have Hke := Lib.hid hke'
          clear hke'
          go_upto_region 18 with (go_at_call 39; (with_reducible refine H17.out.mono ?_); rintro e w17 ⟨X17, s17, k17, h17, er, rfl, r17, t17, o17⟩; unfold Tr.rootV; dsimp only; (have R17 := Lib.hid r17); (have T17 := Lib.hid t17); (have O17 := Lib.hid o17); clear r17 t17 o17)
          clear c0 c1 c2 c3
          obtain ⟨xb, hxb⟩ : ∃ b, w17.heap.size = b := ⟨_, rfl⟩
          obtain ⟨W17, hW17⟩ : ∃ W, w17.alloc (.cells #[.int .i64 k17.1, .int .i64 k17.2.1, .int .i64 k17.2.2, .int .i64 h17] 66) = W := ⟨_, rfl⟩
          rw [hW17, hxb]
          have B17 := Lib.hid (hW17 ▸ below_alloc1 w17 (.cells #[.int .i64 k17.1, .int .i64 k17.2.1, .int .i64 k17.2.2, .int .i64 h17] 66))
          have BX := Lib.hid (show Blk W17 xb 66 #[.int .i64 k17.1, .int .i64 k17.2.1, .int .i64 k17.2.2, .int .i64 h17] from by
            have := Blk.new w17 66 #[.int .i64 k17.1, .int .i64 k17.2.1, .int .i64 k17.2.2, .int .i64 h17]
            rw [hW17, hxb] at this
            exact this)
          have O := O17.out
          clear hxb hW17
          rcases O with rfl | ⟨rfl, om, ok⟩
          · have Fin := Lib.hid ((Px.out.lg.stp R17.out T17.out).below B17.out).bel
            go_wp2_with fail
            go_ret
            exact ⟨rfl, Fin.out⟩
          · have P18 := Lib.hid ((Px.out.stp R17.out T17.out om ok).below B17.out)
            clear om ok
            have c0 := BX.out.cell 0
            have c1 := BX.out.cell 1
            have c2 := BX.out.cell 2
            have c3 := BX.out.cell 3
            have RG := Lib.hid P18.out.now.right
            have HRt := Lib.hid (right_is p s17 h17.toNat k17 h17 0 512 true P18.out.lg.rep P18.out.now.kr (by have := RG.out.2; omega) rfl (iff_of_true rfl RG.out.1))
            go_wp2_with (go_at_call 34; (with_reducible refine HRt.out.mono ?_); rintro e w20 ⟨rfl, b20⟩; (have P20 := Lib.hid (P18.out.below b20)); (have Bx := BX.out.keep (b20.block xb BX.out.lt)); (have y0 := Bx.cell 0); (have y1 := Bx.cell 1); (have y2 := Bx.cell 2); (have y3 := Bx.cell 3); (obtain ⟨v1, v2, v3, v4, q1, q2, q3, q4, ⟨f1, f2, f3, f4⟩, ⟨d1, d2, d3, d4⟩, P21⟩ := P20.out.store); (have P21 := Lib.hid P21); clear b20 Bx c0 c1 c2 c3)
            go_roundw
            case rel => exact ⟨i + nq, by go_num, by omega, _, _, _, _, by rw [← Hke.out]; have := P21.out; rw [Tr.puts_seg, show i + (k - i) = k by omega] at this; exact this⟩
            case measure => simp [intOf]; omega
    · have z0 : decide ((i : Int) < 512) = false := by rw [decide_eq_false_iff_not]; omega
      have z0' : decide (i < 512) = false := decide_eq_false hin
      rw [Nat.min_eq_right (by omega)] at HP
      have hlen : (Tr.puts [] (Tr.eL aq 512)).length = 512 := by rw [← Haq.out]; exact Tr.em_len sa 512 (Nat.le_refl _)
      have H23 := Lib.hid (show Calls Try.prog 35 #[memV p, Tr.rootV kk hh] wr (fun e w' => ∃ X' st' A c, e = .returned (.tuple #[.slice A 512 c, .int .i64 0]) ∧ MRep p w' X' st' ∧ Stp wr X w' X' ∧ Tr.KS st st') from
        (tall HP.out.lg.rep HP.out.calm.bl HP.out.now).mono fun e w' he => by
          obtain ⟨X', st', A, c, e1, e2, e3, e4, -⟩ := he
          rw [hlen] at e1
          exact ⟨X', st', A, c, e1, e2, e3, e4⟩)
      unfold memV Tr.rootV at H23
      clear hlen
      have c0 := HP.out.blk.cell 0
      have c1 := HP.out.blk.cell 1
      have c2 := HP.out.blk.cell 2
      have c3 := HP.out.blk.cell 3
      go_upto_region 24 with (go_at_call 35; (with_reducible refine H23.out.mono ?_); rintro e w23 ⟨X23, s23, A23, d23, rfl, r23, t23, m23⟩; (have P24 := Lib.hid (HP.out.ks r23 t23 m23)); clear r23 t23 m23)
      clear c0 c1 c2 c3 z0 z0' hin hi
      go_wp2_with fail
      have P25 := Lib.hid (show ∃ m, EmI B w p rb kk hh kk hh m w23 X23 s23 from ⟨_, P24.out⟩)
      clear HP P24 hi0 hz0 hs0 hb0
      go_loopw [20] (fun v20 wx => ∃ i : Nat, v20 = .int .i64 (i : Int) ∧ i ≤ 575 ∧ ∃ kk hh m X st, EmI B w p rb kk hh kk hh m wx X st ∧ Tr.Gone bq (min i 512) m) (fun v20 _ => 600 - (intOf v20).toNat)
      case atStart => obtain ⟨m, hm⟩ := P25.out; exact ⟨0, rfl, Nat.zero_le _, _, _, _, _, _, hm, fun e he k hk => absurd hk (by simp)⟩
      case round =>
        clear P25
        rename World => wr
        obtain ⟨i, rfl, hi, kk, hh, m, X, st, hP, hG⟩ := hrel
        have HP := Lib.hid hP
        have HG := Lib.hid hG
        clear hP hG
        by_cases hin : i < 512
        · have z0 : decide ((i : Int) < 512) = true := by rw [decide_eq_true_eq]; omega
          have z0' : decide (i < 512) = true := decide_eq_true hin
          have hii : (0 : Int) ≤ (i : Int) ∧ (i : Int) < 512 := by omega
          rw [Nat.min_eq_left (Nat.le_of_lt hin)] at HG
          go_wp2_with fail
          clear z0 z0'
          go_loopw [21, 22] (fun v14 v15 wx => ∃ k : Nat, v15 = .int .i64 (k : Int) ∧ i ≤ k ∧ k ≤ i + nq ∧ k ≤ 512 ∧ Below wr.heap.size wr wx ∧ wx.ownsRow wr.heap.size 3 1 v14 (k - i) (ivs (Tr.kS bq i (k - i)))) (fun _ v15 _ => 600 - (intOf v15).toNat)
          case atStart => exact ⟨i, rfl, Nat.le_refl _, by omega, by omega, Below.refl _ _, by rw [Nat.sub_self]; exact World.ownsRow_nil _ _ _ _⟩
          case round =>
            rename World => wx
            obtain ⟨k, rfl, hk1, hk2, hk3, hbk, hrow⟩ := hrel
            have HB := Lib.hid hbk
            have HR := Lib.hid hrow
            clear hbk hrow
            have hkk : (i : Int) ≤ (k : Int) ∧ (k : Int) ≤ 512 := by omega
            by_cases hke : k < i + nq
            · have z1 : decide ((k : Int) < (i : Int) + (nq : Int)) = true := by rw [decide_eq_true_eq]; omega
              have z1' : decide (k < i + nq) = true := decide_eq_true hke
              by_cases hk5 : k < 512
              · have z2 : decide ((k : Int) < 512) = true := by rw [decide_eq_true_eq]; omega
                have z2' : decide (k < 512) = true := decide_eq_true hk5
                obtain ⟨D, d, rfl⟩ := own_slice HR.out
                obtain ⟨x, hx⟩ : ∃ x, k * bq = x := ⟨_, rfl⟩
                have hx1 : x ≤ 511 * 511 := by rw [← hx]; exact Nat.mul_le_mul (by omega) a3
                have hx2 : (k : Int) * (bq : Int) = (x : Int) := by rw [← hx]; exact (Int.natCast_mul k bq).symm
                have hx3 : (0 : Int) ≤ (x : Int) ∧ (x : Int) ≤ 261121 := by omega
                have hx4 : (x : Int).tmod 512 = Tr.eK bq k := by unfold Tr.eK; rw [hx]; exact (Int.ofNat_tmod x 512).symm
                have hky0 := Tr.eK_in bq k
                clear hx hx1
                obtain ⟨ky, hky⟩ : ∃ y, Tr.eK bq k = y := ⟨_, rfl⟩
                rw [hky] at hx4 hky0
                have Hky := Lib.hid hky
                clear hky
                have RowW := Lib.hid (fun (C : Array Value) => own_keep (w' := wx.alloc (.cells C 3)) HR.out fun b _ hlt => Below.heap_alloc wx _ b hlt)
                have Nx := Lib.hid (show ivs (Tr.kS bq i (k - i)) ++ [.int .i64 ky] = ivs (Tr.kS bq i (k + 1 - i)) from by
                  rw [show k + 1 - i = k - i + 1 by omega, Tr.kS_next, ivs_app, show i + (k - i) = k by omega]
                  show _ = _ ++ [Value.int .i64 (Tr.eK bq k)]
                  rw [Hky.out])
                go_wp2_with (at_builtin; refine wpList_append_sls (base := wr.heap.size) _ rfl (.tmp 136) (.tmp 141) _ rfl Try.underlying22 hi1 hz1 hs1 hb1 rfl (by decide) rfl (RowW.out _) (m := 1) (news := [.int .i64 ky]) rfl rfl (fun h => by cases h) (Nat.le_refl _) sl_oneE (by simp [Value.oneCell']) (by unfold maxLen; omega) (by omega) (by have := HB.out.size; simp; omega) ?_; intro v8 w8 j1 j2 j3; rw [Nx.out] at j1; (have R8 := Lib.hid j1); (have B8 := Lib.hid (grow_n HB.out j2 fun g hg => (HR.out.lt g hg).1)); clear j1 j2 j3)
                go_roundw
                case rel => exact ⟨k + 1, by go_num, by omega, by omega, by omega, B8.out, by rw [show k + 1 - i = k - i + 1 by omega] at *; exact R8.out⟩
                case measure => simp [intOf]; omega
              · skip
                have z2 : decide ((k : Int) < 512) = false := by rw [decide_eq_false_iff_not]; omega
                have z2' : decide (k < 512) = false := decide_eq_false hk5
                have hke' : k = min (i + nq) 512 := by omega
                have Px := Lib.hid (HP.out.below HB.out)
                obtain ⟨D, d, rfl⟩ := own_slice HR.out
                have H17 := Lib.hid (tcutF Px.out.lg.rep Px.out.calm Px.out.now (ks := Tr.kS bq i (k - i)) (A := D) (c := d) (n := k - i) ⟨own_len HR.out, own_none HR.out, own_slW' HR.out⟩ (Tr.kS_len _ _ _) (by omega) (Tr.kS_ok _ _ _))
                unfold memV Tr.rootV at H17
                have c0 := Px.out.blk.cell 0
                have c1 := Px.out.blk.cell 1
                have c2 := Px.out.blk.cell 2
                have c3 := Px.out.blk.cell 3
                have Hke := Lib.hid hke'
                clear hke'
                go_upto_region 35 with (go_at_call 40; (with_reducible refine H17.out.mono ?_); rintro e w17 ⟨X17, s17, k17, h17, er, rfl, r17, t17, o17⟩; unfold Tr.rootV; dsimp only; (have R17 := Lib.hid r17); (have T17 := Lib.hid t17); (have O17 := Lib.hid o17); clear r17 t17 o17)
                clear c0 c1 c2 c3
                obtain ⟨xb, hxb⟩ : ∃ b, w17.heap.size = b := ⟨_, rfl⟩
                obtain ⟨W17, hW17⟩ : ∃ W, w17.alloc (.cells #[.int .i64 k17.1, .int .i64 k17.2.1, .int .i64 k17.2.2, .int .i64 h17] 66) = W := ⟨_, rfl⟩
                rw [hW17, hxb]
                have B17 := Lib.hid (hW17 ▸ below_alloc1 w17 (.cells #[.int .i64 k17.1, .int .i64 k17.2.1, .int .i64 k17.2.2, .int .i64 h17] 66))
                have BX := Lib.hid (show Blk W17 xb 66 #[.int .i64 k17.1, .int .i64 k17.2.1, .int .i64 k17.2.2, .int .i64 h17] from by
                  have := Blk.new w17 66 #[.int .i64 k17.1, .int .i64 k17.2.1, .int .i64 k17.2.2, .int .i64 h17]
                  rw [hW17, hxb] at this
                  exact this)
                have O := O17.out
                clear hxb hW17
                rcases O with rfl | ⟨rfl, om, ok⟩
                · have Fin := Lib.hid ((Px.out.lg.stp R17.out T17.out).below B17.out).bel
                  go_wp2_with fail
                  go_ret
                  exact ⟨rfl, Fin.out⟩
                · have P18 := Lib.hid ((Px.out.stp R17.out T17.out om ok).below B17.out)
                  clear om ok
                  have c0 := BX.out.cell 0
                  have c1 := BX.out.cell 1
                  have c2 := BX.out.cell 2
                  have c3 := BX.out.cell 3
                  have RG := Lib.hid P18.out.now.right
                  have HRt := Lib.hid (right_is p s17 h17.toNat k17 h17 0 512 true P18.out.lg.rep P18.out.now.kr (by have := RG.out.2; omega) rfl (iff_of_true rfl RG.out.1))
                  go_wp2_with (go_at_call 34; (with_reducible refine HRt.out.mono ?_); rintro e w20 ⟨rfl, b20⟩; (have P20 := Lib.hid (P18.out.below b20)); (have Bx := BX.out.keep (b20.block xb BX.out.lt)); (have y0 := Bx.cell 0); (have y1 := Bx.cell 1); (have y2 := Bx.cell 2); (have y3 := Bx.cell 3); (obtain ⟨v1, v2, v3, v4, q1, q2, q3, q4, ⟨f1, f2, f3, f4⟩, ⟨d1, d2, d3, d4⟩, P21⟩ := P20.out.store); (have P21 := Lib.hid P21); clear b20 Bx c0 c1 c2 c3)
                  go_roundw
                  case rel => exact ⟨i + nq, by go_num, by omega, _, _, _, _, _, P21.out, by rw [← Hke.out]; have := Tr.gone_cuts (c := k - i) HG.out; rw [show i + (k - i) = k by omega] at this; exact this⟩
                  case measure => simp [intOf]; omega
            · skip
              have z1 : decide ((k : Int) < (i : Int) + (nq : Int)) = false := by rw [decide_eq_false_iff_not]; omega
              have z1' : decide (k < i + nq) = false := decide_eq_false hke
              have hke' : k = min (i + nq) 512 := by omega
              have Px := Lib.hid (HP.out.below HB.out)
              obtain ⟨D, d, rfl⟩ := own_slice HR.out
              have H17 := Lib.hid (tcutF Px.out.lg.rep Px.out.calm Px.out.now (ks := Tr.kS bq i (k - i)) (A := D) (c := d) (n := k - i) ⟨own_len HR.out, own_none HR.out, own_slW' HR.out⟩ (Tr.kS_len _ _ _) (by omega) (Tr.kS_ok _ _ _))
              unfold memV Tr.rootV at H17
              have c0 := Px.out.blk.cell 0
              have c1 := Px.out.blk.cell 1
              have c2 := Px.out.blk.cell 2
              have c3 := Px.out.blk.cell 3
              have Hke := Lib.hid hke'
              clear hke'
              go_upto_region 35 with (go_at_call 40; (with_reducible refine H17.out.mono ?_); rintro e w17 ⟨X17, s17, k17, h17, er, rfl, r17, t17, o17⟩; unfold Tr.rootV; dsimp only; (have R17 := Lib.hid r17); (have T17 := Lib.hid t17); (have O17 := Lib.hid o17); clear r17 t17 o17)
              clear c0 c1 c2 c3
              obtain ⟨xb, hxb⟩ : ∃ b, w17.heap.size = b := ⟨_, rfl⟩
              obtain ⟨W17, hW17⟩ : ∃ W, w17.alloc (.cells #[.int .i64 k17.1, .int .i64 k17.2.1, .int .i64 k17.2.2, .int .i64 h17] 66) = W := ⟨_, rfl⟩
              rw [hW17, hxb]
              have B17 := Lib.hid (hW17 ▸ below_alloc1 w17 (.cells #[.int .i64 k17.1, .int .i64 k17.2.1, .int .i64 k17.2.2, .int .i64 h17] 66))
              have BX := Lib.hid (show Blk W17 xb 66 #[.int .i64 k17.1, .int .i64 k17.2.1, .int .i64 k17.2.2, .int .i64 h17] from by
                have := Blk.new w17 66 #[.int .i64 k17.1, .int .i64 k17.2.1, .int .i64 k17.2.2, .int .i64 h17]
                rw [hW17, hxb] at this
                exact this)
              have O := O17.out
              clear hxb hW17
              rcases O with rfl | ⟨rfl, om, ok⟩
              · have Fin := Lib.hid ((Px.out.lg.stp R17.out T17.out).below B17.out).bel
                go_wp2_with fail
                go_ret
                exact ⟨rfl, Fin.out⟩
              · have P18 := Lib.hid ((Px.out.stp R17.out T17.out om ok).below B17.out)
                clear om ok
                have c0 := BX.out.cell 0
                have c1 := BX.out.cell 1
                have c2 := BX.out.cell 2
                have c3 := BX.out.cell 3
                have RG := Lib.hid P18.out.now.right
                have HRt := Lib.hid (right_is p s17 h17.toNat k17 h17 0 512 true P18.out.lg.rep P18.out.now.kr (by have := RG.out.2; omega) rfl (iff_of_true rfl RG.out.1))
                go_wp2_with (go_at_call 34; (with_reducible refine HRt.out.mono ?_); rintro e w20 ⟨rfl, b20⟩; (have P20 := Lib.hid (P18.out.below b20)); (have Bx := BX.out.keep (b20.block xb BX.out.lt)); (have y0 := Bx.cell 0); (have y1 := Bx.cell 1); (have y2 := Bx.cell 2); (have y3 := Bx.cell 3); (obtain ⟨v1, v2, v3, v4, q1, q2, q3, q4, ⟨f1, f2, f3, f4⟩, ⟨d1, d2, d3, d4⟩, P21⟩ := P20.out.store); (have P21 := Lib.hid P21); clear b20 Bx c0 c1 c2 c3)
                go_roundw
                case rel => exact ⟨i + nq, by go_num, by omega, _, _, _, _, _, P21.out, by rw [← Hke.out]; have := Tr.gone_cuts (c := k - i) HG.out; rw [show i + (k - i) = k by omega] at this; exact this⟩
                case measure => simp [intOf]; omega
        · have z0 : decide ((i : Int) < 512) = false := by rw [decide_eq_false_iff_not]; omega
          have z0' : decide (i < 512) = false := decide_eq_false hin
          rw [Nat.min_eq_right (by omega)] at HG
          have hm : m = [] := Tr.gone_nil Hsb.out (Hbq.out ▸ HG.out) (Nat.le_refl _) HP.out.now.asc.2
          subst hm
          have H40 := Lib.hid (show Calls Try.prog 35 #[memV p, Tr.rootV kk hh] wr (fun e w' => ∃ X' st' A c, e = .returned (.tuple #[.slice A 0 c, .int .i64 0]) ∧ MRep p w' X' st' ∧ Stp wr X w' X' ∧ Tr.KS st st') from
            (tall HP.out.lg.rep HP.out.calm.bl HP.out.now).mono fun e w' he => by
              obtain ⟨X', st', A, c, e1, e2, e3, e4, -⟩ := he
              exact ⟨X', st', A, c, e1, e2, e3, e4⟩)
          unfold memV Tr.rootV at H40
          have c0 := HP.out.blk.cell 0
          have c1 := HP.out.blk.cell 1
          have c2 := HP.out.blk.cell 2
          have c3 := HP.out.blk.cell 3
          go_upto_region 41 with (go_at_call 35; (with_reducible refine H40.out.mono ?_); rintro e w40 ⟨X40, s40, A40, d40, rfl, r40, t40, m40⟩; (have P41 := Lib.hid (HP.out.ks r40 t40 m40)); clear r40 t40 m40)
          clear c0 c1 c2 c3 z0 z0' hin hi
          have c0 := P41.out.blk.cell 0
          have c1 := P41.out.blk.cell 1
          have c2 := P41.out.blk.cell 2
          have c3 := P41.out.blk.cell 3
          have H41 := Lib.hid (tnodes P41.out.lg.rep P41.out.calm.bl P41.out.now)
          unfold memV Tr.rootV at H41
          go_upto_region 42 with (go_at_call 41; (with_reducible refine H41.out.mono ?_); rintro e w42 ⟨X42, s42, q42, g42, o42, d42, rfl, hq42, r42, t42, y0, y1, y2⟩; (have P42 := Lib.hid (P41.out.lg.stp r42 t42)); (have Bk := Lib.hid (P41.out.blk.keep (P41.out.lg.keeps t42 rfl))); clear r42 t42)
          clear c0 c1 c2 c3
          have c0 := Bk.out.cell 0
          have c1 := Bk.out.cell 1
          have c2 := Bk.out.cell 2
          have c3 := Bk.out.cell 3
          have v1 : (1 : Int) ≤ ((q42 + 1 : Nat) : Int) := by omega
          have v2 : decide ((1 : Int) ≤ ((q42 + 1 : Nat) : Int)) = true := decide_eq_true v1
          have v3 : decide ((1 : Int) ≤ (q42 : Int) + 1) = true := decide_eq_true (by omega)
          have v4 : (0 : Int) < (q42 : Int) + 1 := by omega
          have v5 : 0 < q42 + 1 := Nat.succ_pos _
          have Fin := Lib.hid (fun n => belowN P42.out.bel n)
          obtain ⟨ka, kb, kc⟩ := kk
          dsimp only at y0 y1 y2 c0 c1 c2 c3
          go_quiet (fail)
          go_wp2_with fail
          go_ret
          exact ⟨rfl, Fin.out _⟩
end Go.Proofs.Ytfjhimnjipdajaa
