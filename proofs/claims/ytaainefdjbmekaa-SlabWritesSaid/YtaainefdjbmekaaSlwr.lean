/- SlabWrites, walked. -/
import Derived.Test.YtaainefdjbmekaaSlwiJ
namespace Go.Proofs.Ytaainefdjbmekaa
open Go.RowKit Go.Maps

/-- The bytes of a frame that SlabWrites writes. -/
def fb (c : Nat) (N : Nat) : List Nat := (List.range N).map fun k => (c + k / 64) % 256
theorem fb_len (c N : Nat) : (fb c N).length = N := by unfold fb; rw [List.length_map, List.length_range]
theorem fb_lt (c N : Nat) : ∀ x ∈ fb c N, x < 256 := fun x hx => by
  obtain ⟨k, _, rfl⟩ := List.mem_map.1 hx
  exact Nat.mod_lt _ (by decide)
def fbk (c N k : Nat) : List Nat := fb c k ++ List.replicate (N - k) 0
theorem fbk_zero (c N : Nat) : fbk c N 0 = List.replicate N 0 := by unfold fbk fb; simp
theorem fbk_all (c N : Nat) : fbk c N N = fb c N := by unfold fbk; simp
theorem fbk_len (c N k : Nat) (h : k ≤ N) : (fbk c N k).length = N := by unfold fbk; rw [List.length_append, fb_len, List.length_replicate]; omega
theorem fbk_set (c N k : Nat) (h : k < N) : (fbk c N k).set k ((c + k / 64) % 256) = fbk c N (k + 1) := by
  unfold fbk
  obtain ⟨d, rfl⟩ : ∃ d, N = k + 1 + d := ⟨N - (k + 1), by omega⟩
  rw [show k + 1 + d - k = d + 1 by omega, show k + 1 + d - (k + 1) = d by omega, List.replicate_succ, List.set_append_right _ _ (by rw [fb_len]; exact Nat.le_refl _), fb_len, Nat.sub_self]
  unfold fb
  rw [List.range_succ, List.map_append, List.append_assoc]
  rfl

/-- The state while the frames are read back. -/
structure RS (st0 st3 : PSt) (j : Nat) : Prop where
  plan : st3.plan = []
  len : st3.blocks.length = 96
  small : SmallS st3 (9000 - 11 * j)
  look : ∀ k, st3.look k = st0.look k
theorem wr_u {u lf : Nat} (h : u + lf = 96) : u ≤ 96 := by omega
theorem wr_st0 {V : SlV} {u : Nat} {fr : List (Nat × Nat × List Nat)} (h : WS V u fr) (hu : u ≤ 96) : RS V.st V.st 0 := ⟨h.plan, h.pre.len, h.small.mono (by omega), fun _ => rfl⟩
theorem RS.read {st0 st3 : PSt} {j a n : Nat} (h : RS st0 st3 j) (hj : j < 60) (hn : n ≤ 11) (ha : a + n ≤ 96) {l : List Nat} (hl : l.length = 64 * n) (hk : ∀ i, i < n → st0.look (a + i) = blkOf l i) : SmallS st3 n ∧ (st3.rds a n).1 = 0 ∧ (st3.rds a n).2.1 = l ∧ RS st0 (st3.rds a n).2.2 (j + 1) := by
  obtain ⟨h1, h2, h3⟩ := rds_ok h.plan (by rw [h.len]; exact ha) n (Nat.le_refl _)
  refine ⟨h.small.mono (by omega), h1, ?_, by rw [rds_plan]; exact h.plan, by rw [rds_blocks]; exact h.len, SmallS.rds (h.small.mono (by omega)), fun k => by rw [h3, h.look]⟩
  rw [h2]
  refine Eq.trans ?_ (blkOf_all n hl)
  rw [List.flatMap_def, List.flatMap_def]
  congr 1
  apply List.map_congr_left
  intro i hi
  have hi := List.mem_range.1 hi
  rw [h.look, hk i hi]
theorem wconv {w : World} {B : Nat} {A : Option Addr} {cap : Nat} {l : List Nat} (h : Sl w B A (byts l)) : (convert 22 9 (.slice A l.length cap)).run Try.prog w = .ok (.string (strOfNums (l.map fun n : Nat => (n : Int)))) w := by
  rcases h with h0 | ⟨b, o, rfl, _, hc⟩
  · have : l = [] := by cases l with
      | nil => rfl
      | cons a r => simp [byts] at h0
    subst this
    exact run_convert_bytes_zero w 22 5 Try.underlying22 Try.underlying5 A cap _ Try.underlying9
  · refine run_convert_bytes_arg (P := Try.prog) w 22 5 Try.underlying22 Try.underlying5 b o l.length cap (l.map fun n : Nat => (n : Int)) (by simp) (fun i hi => ?_) _ Try.underlying9
    rw [hc i (by rw [byts_length]; exact hi)]
    simp [byts, List.getD, hi]
theorem own_at {w : World} {base : Nat} {e : TypeId} {size n c : Nat} {A : Option Addr} {xs : List Value} (h : w.ownsRow base e size (.slice A n c) n xs) (hn : 0 < n) (hl : xs.length = n * size) : ∃ g, A = some ⟨g, 0, none⟩ ∧ ∀ i, i < xs.length → w.cell? ⟨g, i, none⟩ = xs[i]? := by
  rcases h.2 with ⟨h', hn'⟩ | ⟨g, cap, cur, h', hb, hg, hnc, _⟩
  · exact absurd hn' (Nat.pos_iff_ne_zero.1 hn)
  · injection h' with hA _ _
    subst hA
    exact ⟨g, rfl, fun i hi => h.cellAt i (by omega)⟩
theorem inC_len (fr : List (Nat × Nat × List Nat)) : (inC fr).length = fr.length * 1 := by unfold inC; rw [List.length_map, Nat.mul_one]
theorem inC_at {fr : List (Nat × Nat × List Nat)} {i : Nat} (h : i < fr.length) : (inC fr)[i]? = some (.slice (some ⟨fr[i].1, 0, none⟩) fr[i].2.2.length fr[i].2.2.length) := by
  unfold inC
  rw [List.getElem?_map, List.getElem?_eq_getElem h]
  rfl
/-- What a round that reads finds. -/
theorem WM.at {w wr : World} {K : Nat → Prop} {fr : List (Nat × Nat × List Nat)} {Ai Aa : Option Addr} {ci ca j : Nat} (h : WM w wr K fr (.slice Ai fr.length ci) (.slice Aa fr.length ca)) (hj : j < fr.length) :
    ∃ gi ga, Ai = some ⟨gi, 0, none⟩ ∧ Aa = some ⟨ga, 0, none⟩ ∧ wr.cell? ⟨gi, j, none⟩ = some (.slice (some ⟨fr[j].1, 0, none⟩) fr[j].2.2.length fr[j].2.2.length) ∧ wr.cell? ⟨ga, j * 2, none⟩ = some (.int .i64 (fr[j].2.1 : Int)) ∧ wr.cell? ⟨ga, j * 2 + 1, none⟩ = some (.int .i64 ((fr[j].2.2.length / 64 : Nat) : Int)) := by
  obtain ⟨gi, h1, h2⟩ := own_at h.ri (Nat.lt_of_le_of_lt (Nat.zero_le j) hj) (inC_len fr)
  obtain ⟨ga, h3, h4⟩ := own_at h.ra (Nat.lt_of_le_of_lt (Nat.zero_le j) hj) (atC_len fr)
  refine ⟨gi, ga, h1, h3, ?_, ?_, ?_⟩
  · rw [h2 j (by rw [inC_len]; omega), inC_at hj]
  · rw [h4 _ (by rw [atC_len]; omega), (atC_at hj).1]
  · rw [h4 _ (by rw [atC_len]; omega), (atC_at hj).2]
theorem wr_al {w : World} (o : Obj) : Below w.heap.size w (w.alloc o) := (Below.refl _ _).alloc (Nat.le_refl _) o
theorem wr_new1 (w : World) (o : Obj) (t : TypeId) (cs : Array Value) : Blk ((w.alloc o).alloc (.cells cs t)) (w.heap.size + 1) t cs := by
  have := Blk.new (w.alloc o) t cs
  rw [show (w.alloc o).heap.size = w.heap.size + 1 by simp] at this
  exact this
theorem wr_small {n u lf : Nat} (h : n ≤ 11) (hu : u + lf = 96) : n ≤ 10000 - u := by omega
theorem wr_full {n u lf : Nat} (hu : u + lf = 96) (h : lf < n) : 96 < u + n := by omega
theorem wr_fits {n u lf : Nat} (hu : u + lf = 96) (h : ¬ lf < n) : u + n ≤ 96 := by omega
theorem wr_left {u lf : Nat} (hu : u + lf = 96) : 96 - u = lf := by omega
theorem wr_lf {n u lf : Nat} (hu : u + lf = 96) (h : ¬ lf < n) : ∃ lf2 : Nat, (96 : Int) - (lf : Int) = (u : Int) ∧ (lf : Int) - (n : Int) = (lf2 : Int) ∧ u + n + lf2 = 96 := ⟨lf - n, by omega, by omega, by omega⟩
theorem fb_wraps (fill i k : Nat) (hfill : fill < 256) (hi : i < 60) (hk : k < 704) : ∃ kd f1 f2 : Nat, f2 = ((fill + i) % 256 + k / 64) % 256 ∧ (k : Int).tdiv 64 = (kd : Int) ∧ wrap64 (kd : Int) = (kd : Int) ∧ IntKind.u8.wrap (kd : Int) = (kd : Int) ∧ IntKind.u8.wrap (i : Int) = (i : Int) ∧ IntKind.u8.wrap ((fill : Int) + (i : Int)) = (f1 : Int) ∧ IntKind.u8.wrap ((f1 : Int) + (kd : Int)) = (f2 : Int) := by
  refine ⟨k / 64, (fill + i) % 256, _, rfl, ?_, ?_, ?_, ?_, ?_, ?_⟩
  · rw [Int.tdiv_eq_ediv_of_nonneg (by omega)]; omega
  · rw [← IntWalk.i64_left, IntKind.wrap_i64]; omega
  · rw [IntKind.wrap_u8]; omega
  · rw [IntKind.wrap_u8]; omega
  · rw [IntKind.wrap_u8]; omega
  · rw [IntKind.wrap_u8]; omega

set_option maxRecDepth 10000 in
set_option maxHeartbeats 16000000 in
theorem swrites_any {w : World} {A : Option Addr} {cap : Nat} {l : List Nat} (hl : ∀ x ∈ l, x < 256) (hs : Sl w w.heap.size A (byts l)) (fill : Nat) (hfill : fill < 256) : Calls Try.prog 3 #[.slice A l.length cap, .int .u8 (fill : Int)] w fun e w' => e = .returned (.bool true) ∧ Below w.heap.size w w' := by
  have AW := Lib.hid (slawake_any w)
  have HS := Lib.hid hs
  have HL := Lib.hid hl
  obtain ⟨q, hq⟩ : ∃ q, q = l.length := ⟨_, rfl⟩
  have HQ := Lib.hid hq
  rw [← hq]
  clear hs hl hq
  by_cases hbig : 60 < q
  · have z0 : decide (60 < (q : Int)) = true := by rw [decide_eq_true_eq]; omega
    have z0' : decide (60 < q) = true := by rw [decide_eq_true_eq]; exact hbig
    go_enter Try.func3, Try.ntmps3
    go_wp2_with fail
    refine AW.out.mono ?_
    rintro e w0 ⟨rfl, hb0⟩
    have B0 := Lib.hid hb0
    clear hb0
    go_wp2_with fail
    go_ret
    exact ⟨rfl, B0.out⟩
  · have z0 : decide (60 < (q : Int)) = false := by rw [decide_eq_false_iff_not]; omega
    have z0' : decide (60 < q) = false := by rw [decide_eq_false_iff_not]; exact hbig
    have hqb : q ≤ 60 := by omega
    go_enter Try.func3, Try.ntmps3
    go_wp2_with fail
    refine AW.out.mono ?_
    rintro e w0 ⟨rfl, hb0⟩
    have M := smake_any 96 1 (by omega) (by omega) (w := w) (wr := w0) hb0
    rw [show ((96 : Nat) : Int) = 96 from rfl] at M
    have M1 := Lib.hid M
    clear hb0 AW M
    go_wp2_with fail
    refine M1.out.mono ?_
    rintro e w1 ⟨P, rfl, h1, -⟩
    obtain ⟨s, hs⟩ : ∃ s, s = P.s := ⟨_, rfl⟩
    obtain ⟨p, hp⟩ : ∃ p, p = P.p := ⟨_, rfl⟩
    obtain ⟨g, hg⟩ : ∃ g, g = P.g := ⟨_, rfl⟩
    obtain ⟨gs, hgs⟩ : ∃ gs, gs = P.gs := ⟨_, rfl⟩
    rw [← hs, ← hp, ← hg, ← hgs]
    have PP := Lib.hid (And.intro hs (And.intro hp (And.intro hg hgs)))
    have H1 := Lib.hid (h1.mono (K' := fun _ => False) fun _ h => h.elim)
    clear h1 M1 hs hp hg hgs
    go_wp2_with fail
    go_loopw [9, 10, 11, 12] (fun v9 v10 v11 v12 wr => ∃ (i u lf : Nat) (V : SlV) (K : Nat → Prop) (fr : List (Nat × Nat × List Nat)) (Ai : Option Addr) (ci : Nat) (Aa : Option Addr) (ca : Nat), v9 = .slice Ai fr.length ci ∧ v10 = .slice Aa fr.length ca ∧ v11 = .int .i64 (lf : Int) ∧ v12 = .int .i64 (i : Int) ∧ i ≤ q ∧ fr.length ≤ i ∧ u + lf = 96 ∧ SlS w wr P V K ∧ WS V u fr ∧ WM w wr K fr (.slice Ai fr.length ci) (.slice Aa fr.length ca)) (fun _ _ _ v12 _ => q - (RowKit.intOf v12).toNat)
    case atStart =>
      refine ⟨0, 2, 94, newV 96 1, fun _ => False, [], none, 0, none, 0, rfl, rfl, rfl, rfl, Nat.zero_le _, Nat.le_refl _, rfl, H1.out, ⟨pre_new (by omega) (by omega) 1, rfl, small_new 96 _ (by omega) (by omega), rfl, (fun x hx => by cases hx)⟩, ⟨(fun x hx => by cases hx), World.ownsRow_nil _ _ _ _, World.ownsRow_nil _ _ _ _, (fun b hb => by simp [Value.ownBlock] at hb), (fun b hb => by simp [Value.ownBlock] at hb), fun b hb => hb.elim⟩⟩
    case round =>
      obtain ⟨i, u, lf, V, K, fr, Ai, ci, Aa, ca, rfl, rfl, rfl, rfl, hi, hfi, hu, hS, hW, hM⟩ := hrel
      by_cases hiq : i < q
      · have y0 : decide ((i : Int) < (q : Int)) = true := by rw [decide_eq_true_eq]; omega
        have y0' : decide (i < q) = true := by rw [decide_eq_true_eq]; exact hiq
        obtain ⟨x, hx⟩ : ∃ x, x = l.getD i 0 := ⟨_, rfl⟩
        have hil : i < l.length := by rw [← HQ.out]; exact hiq
        have hxx : l[i] = x := by rw [hx, List.getD_eq_getElem?_getD, List.getElem?_eq_getElem hil]; rfl
        have hxb : x < 256 := by rw [← hxx]; exact HL.out _ (List.getElem_mem _)
        obtain ⟨bx, ox, rfl, hcell⟩ : ∃ b o, A = some ⟨b, o, none⟩ ∧ wr.cell? ⟨b, o + i, none⟩ = some (.int .u8 (x : Int)) := by
          rcases HS.out.below hS.bel with h0 | ⟨b, o, e, _, h1⟩
          · have h2 : (byts l).length = l.length := byts_length l
            rw [h0, List.length_nil] at h2
            omega
          · exact ⟨b, o, e, by rw [h1 i (by rw [byts_length]; exact hil)]; simp [byts, hxx]⟩
        obtain ⟨n, hn, hnb⟩ : ∃ n : Nat, (x : Int).tmod 12 = n ∧ n ≤ 11 := ⟨x % 12, by rw [Int.tmod_eq_emod_of_nonneg (by omega)]; omega, by omega⟩
        have wx : wrap64 (x : Int) = (x : Int) := by rw [← IntWalk.i64_left, IntKind.wrap_i64]; omega
        obtain ⟨N, hN⟩ : ∃ N, N = 64 * n := ⟨_, rfl⟩
        have e1 : wrap64 ((n : Int) * 64) = (N : Int) := by rw [← IntWalk.i64_left, IntKind.wrap_i64]; omega
        have hmk : ∀ W, (Instr.makeSlice 22 (.int .i64 ((n : Int) * 64)) (.int .i64 ((n : Int) * 64))).run Try.prog W = .ok (.slice (some ⟨W.heap.size, 0, none⟩) N N) (W.alloc (.cells (zcells N) 5)) := by
          intro W
          have := make_bytes N (by omega) W
          rw [hN, Int.natCast_mul, Int.mul_comm] at this
          rw [hN]
          exact this
        obtain ⟨W1, hW1⟩ : ∃ W, wr.alloc (.cells (zcells N) 5) = W := ⟨_, rfl⟩
        obtain ⟨xb, hxb'⟩ : ∃ k, wr.heap.size = k := ⟨_, rfl⟩
        have b1 : Below wr.heap.size wr W1 := by rw [← hW1]; exact (Below.refl _ _).alloc (Nat.le_refl _) _
        have X0 : ByBlk W1 xb (fbk ((fill + i) % 256) N 0) := by rw [← hW1, ← hxb', fbk_zero]; exact byblk_zeros wr N
        have hS1 := hS.new b1 (Y := fun b => b = xb) (fun b hb => by subst hb; exact ⟨Nat.le_of_eq hxb', X0.lt⟩)
        have F1 := (hS.step b1).2
        have hwx : w.heap.size ≤ xb := by rw [← hxb']; exact hS.bel.size
        have HS1 := Lib.hid hS1
        have HX0 := Lib.hid X0
        have HF1 := Lib.hid F1
        have HM := Lib.hid hM
        have HW := Lib.hid hW
        have HWX := Lib.hid hwx
        have NKx := Lib.hid (show ¬ K xb from fun hk => by have := hS.lt hk; omega)
        have HN := Lib.hid hN
        have hNb : N ≤ 704 := by omega
        have hi2 : i + 1 ≤ q := hiq
        have hi3 : q - (i + 1) < q - i := Nat.sub_lt_sub_left hiq (Nat.lt_succ_self i)
        clear b1 X0 hS1 F1 hS hW hM hN hx hxx hil hwx
        go_upto_region 16 with fail
        go_wp2_with fail
        go_loopw [15] (fun v15 wr2 => ∃ k : Nat, v15 = .int .i64 (k : Int) ∧ k ≤ N ∧ ByBlk wr2 xb (fbk ((fill + i) % 256) N k) ∧ SlS w wr2 P V (fun b => K b ∨ b = xb) ∧ Far K wr wr2) (fun v15 _ => N - (RowKit.intOf v15).toNat)
        case atStart => exact ⟨0, rfl, Nat.zero_le _, HX0.out, HS1.out, HF1.out⟩
        case round =>
          obtain ⟨k, rfl, hkN, hX2, hS2, hF2⟩ := hrel
          by_cases hk : k < N
          · have y1 : decide ((k : Int) < (N : Int)) = true := by rw [decide_eq_true_eq]; omega
            have y1' : decide (k < N) = true := by rw [decide_eq_true_eq]; exact hk
            obtain ⟨kd, f1, f2, hf2, g1, g1', g2, g3, g4, g5⟩ := fb_wraps fill i k hfill (by have := Nat.lt_of_lt_of_le hiq hqb; exact this) (Nat.lt_of_lt_of_le hk hNb)
            have c1 := byblk_cell hX2 (i := k) (by rw [fbk_len _ _ _ hkN]; exact hk)
            have c2 := Blk.frozen hX2 k
            have X3 : ByBlk (wr.setCell ⟨xb, k, none⟩ (.int .u8 (f2 : Int))) xb (fbk ((fill + i) % 256) N (k + 1)) := by
              have := byblk_set hX2 k f2 rfl
              rw [hf2, fbk_set _ _ _ hk] at this
              rw [hf2]
              exact this
            have HX3 := Lib.hid X3
            have HS3 := Lib.hid (hS2.own (b := xb) (.inr rfl) HWX.out k (.int .u8 (f2 : Int)))
            have HF3 := Lib.hid (hF2.set NKx.out k (.int .u8 (f2 : Int)))
            clear hX2 hS2 hF2 X3 hf2
            go_wp2_with fail
            clear c1 c2
            have hk2 : k + 1 ≤ N := hk
            have hk3 : N - (k + 1) < N - k := Nat.sub_lt_sub_left hk (Nat.lt_succ_self k)
            go_roundw
            case rel => exact ⟨k + 1, by go_num, hk2, HX3.out, HS3.out, HF3.out⟩
            case measure => simp [RowKit.intOf]; exact hk3
          · have y1 : decide ((k : Int) < (N : Int)) = false := by rw [decide_eq_false_iff_not]; omega
            have y1' : decide (k < N) = false := by rw [decide_eq_false_iff_not]; exact hk
            have hkN' : N = k := Nat.le_antisymm (Nat.le_of_not_lt hk) hkN
            rw [← hkN'] at hX2
            have HX2 := Lib.hid hX2
            have HS2 := Lib.hid hS2
            have HF2 := Lib.hid hF2
            clear hX2 hS2 hF2 hkN' hkN HX0 HS1 HF1
            by_cases hn0 : n = 0
            · have SW := swrite_bad HS2.out (A := some ⟨xb, 0, none⟩) (cap := N) (q := N) (.inl (by have := HN.out; rw [hn0] at this; exact this)) (Nat.le_trans hNb (by decide))
              have y2 : decide ((n : Int) = 0) = true := by rw [hn0]; rfl
              obtain ⟨z, hz⟩ : ∃ z : Int, z = 0 := ⟨_, rfl⟩
              rw [← PP.out.1, show wriV (0, 0, 1) = .tuple #[.agg #[.int .i64 z, .int .i64 z], .int .i64 1] by rw [hz]; rfl] at SW
              have SW1 := Lib.hid SW
              clear SW hz
              go_wp2_with fail
              refine SW1.out.mono ?_
              rintro e w4 ⟨rfl, h4, f4⟩
              have b5 : Below w4.heap.size w4 (w4.alloc (.cells #[.int .i64 z, .int .i64 z] 33)) := (Below.refl _ _).alloc (Nat.le_refl _) _
              have h5 := h4.step b5
              have F5 := (HF2.out.trans (Far.mono f4 fun b hb => .inl hb)).trans (Far.mono h5.2 fun b hb => .inl hb)
              have H5 := Lib.hid (h5.1.mono (K' := K) fun b hb => .inl hb)
              have HM5 := Lib.hid (HM.out.far (F5) (fun b hb => hb) HM.out.kb)
              clear h4 f4 b5 h5 F5 SW1 HS2 HF2 HX2 HM
              go_wp2_with fail
              go_roundw
              case rel => exact ⟨i + 1, u, lf, V, K, fr, Ai, ci, Aa, ca, rfl, rfl, rfl, by go_num, hi2, Nat.le_succ_of_le hfi, hu, H5.out, HW.out, HM5.out⟩
              case measure => simp [RowKit.intOf]; exact hi3
            · have hn1 : 1 ≤ n := Nat.pos_of_ne_zero hn0
              have y2 : decide ((n : Int) = 0) = false := by rw [decide_eq_false_iff_not]; intro h; exact hn0 (Int.ofNat.inj h)
              have hLN := fb_len ((fill + i) % 256) N
              have hSW := HX2.out
              rw [fbk_all] at hSW
              have SW := pwrite_any HS2.out HW.out.pre (A := some ⟨xb, 0, none⟩) (cap := N) (n := n) (l := fb ((fill + i) % 256) N) (by rw [hLN]; exact HN.out) hn1 (Nat.le_trans hnb (by decide)) (fb_lt _ _) (byblk_sl hSW) (by rw [hLN]; exact Nat.le_refl _) (fun b o e => by cases e; exact .inr (.inr rfl)) (HW.out.small.mono (wr_small hnb hu))
              rw [hLN, ← PP.out.1] at SW
              have HX3 := Lib.hid hSW
              have hlen : (fb ((fill + i) % 256) N).length = 64 * n := by rw [hLN]; exact HN.out
              by_cases hful : lf < n
              · rw [HW.out.full hn1 (wr_full hu hful)] at SW
                have y3 : decide ((lf : Int) < (n : Int)) = true := by rw [decide_eq_true_eq]; exact Int.ofNat_lt.2 hful
                obtain ⟨z, hz⟩ : ∃ z : Int, z = 0 := ⟨_, rfl⟩
                rw [show wriV ((0, 0, 7), V).1 = .tuple #[.agg #[.int .i64 z, .int .i64 z], .int .i64 7] by rw [hz]; rfl] at SW
                have SW1 := Lib.hid SW
                clear SW hz HX3 hlen hLN HX2 hSW
                go_wp2_with fail
                refine SW1.out.mono ?_
                rintro e w4 ⟨rfl, h4, f4⟩
                have b5 : Below w4.heap.size w4 (w4.alloc (.cells #[.int .i64 z, .int .i64 z] 33)) := (Below.refl _ _).alloc (Nat.le_refl _) _
                have h5 := h4.step b5
                have F5 := (HF2.out.trans (Far.mono f4 fun b hb => .inl hb)).trans (Far.mono h5.2 fun b hb => .inl hb)
                have H5 := Lib.hid (h5.1.mono (K' := K) fun b hb => .inl hb)
                have F6 := Lib.hid F5
                have FR := sl_freeB H5.out
                rw [← PP.out.2.2.1, HW.out.freeN, wr_left hu] at FR
                have FR1 := Lib.hid FR
                clear h4 f4 b5 h5 F5 SW1 HS2 HF2 FR
                go_wp2_with fail
                refine FR1.out.mono ?_
                rintro e w6 ⟨rfl, b6⟩
                obtain ⟨h6, f6⟩ := H5.out.step b6
                have HM6 := Lib.hid (HM.out.far (F6.out.trans f6) (fun b hb => hb) HM.out.kb)
                have H6 := Lib.hid h6
                clear HM h6 f6 b6 H5 F6 FR1
                go_wp2_with fail
                go_roundw
                case rel => exact ⟨i + 1, u, lf, V, K, fr, Ai, ci, Aa, ca, rfl, rfl, rfl, by go_num, hi2, Nat.le_succ_of_le hfi, hu, H6.out, HW.out, HM6.out⟩
                case measure => simp [RowKit.intOf]; exact hi3
              · have y3 : decide ((lf : Int) < (n : Int)) = false := by rw [decide_eq_false_iff_not]; intro h; exact hful (Int.ofNat_lt.1 h)
                obtain ⟨A1, A2, A3⟩ := HW.out.add (xb := xb) hn1 hnb hlen (wr_fits hu hful) (fb_lt _ _)
                obtain ⟨V2, hV2⟩ : ∃ V2, V2 = (V.write (fb ((fill + i) % 256) N) n).2 := ⟨_, rfl⟩
                rw [← hV2] at A2 A3 SW
                rw [A1, show wriV (u, n, 0) = .tuple #[.agg #[.int .i64 (u : Int), .int .i64 (n : Int)], .int .i64 0] from rfl] at SW
                have SW1 := Lib.hid SW
                have HW2 := Lib.hid A2
                have US := Lib.hid A3
                have HLN := Lib.hid (And.intro hlen hLN)
                clear SW hlen hLN HX2 hSW A1 A2 A3 hV2
                go_wp2_with fail
                refine SW1.out.mono ?_
                rintro e w4 ⟨rfl, h4, f4⟩
                go_upto_region 21 with fail
                obtain ⟨rb, hrb⟩ : ∃ k, w4.heap.size = k := ⟨_, rfl⟩
                obtain ⟨W5, hW5⟩ : ∃ W, w4.alloc (.cells #[.int .i64 (u : Int), .int .i64 (n : Int)] 33) = W := ⟨_, rfl⟩
                rw [hW5, hrb]
                have b5 : Below w4.heap.size w4 W5 := by rw [← hW5]; exact (Below.refl _ _).alloc (Nat.le_refl _) _
                have RB : Blk W5 rb 33 #[.int .i64 (u : Int), .int .i64 (n : Int)] := by rw [← hW5, ← hrb]; exact Blk.new _ _ _
                have h5 := h4.new b5 (Y := fun b => b = rb) (fun b hb => by subst hb; exact ⟨Nat.le_of_eq hrb, RB.lt⟩)
                have f5 := (h4.step b5).2
                have F5 := (HF2.out.trans (Far.mono f4 fun b hb => .inl hb)).trans (Far.mono f5 fun b hb => .inl hb)
                have hB : ∀ b, (K b ∨ b = xb) ∨ b = rb → w.heap.size ≤ b := by
                  rintro b ((hb | hb) | hb)
                  · exact HM.out.kb b hb
                  · rw [hb]; exact HWX.out
                  · rw [hb, ← hrb]; exact h4.bel.size
                have m5 := HM.out.far F5 (K' := fun b => (K b ∨ b = xb) ∨ b = rb) (fun b hb => .inl (.inl hb)) hB
                have X5 : ByBlk W5 xb (fb ((fill + i) % 256) N) := Blk.keep (Blk.keep HX3.out (f4.2 xb (.inr rfl))) (f5.2 xb (.inr rfl))
                obtain ⟨L, hL⟩ : ∃ L, L = fb ((fill + i) % 256) N := ⟨_, rfl⟩
                rw [← hL] at X5
                have j5 : WJ w W5 P V2 (fun b => (K b ∨ b = xb) ∨ b = rb) (fr ++ [(xb, u, L)]) fr fr (.slice Ai fr.length ci) (.slice Aa fr.length ca) := ⟨h5, fun y hy => by
                  rcases List.mem_append.1 hy with hy | hy
                  · exact m5.blk y hy
                  · obtain rfl := List.mem_singleton.1 hy
                    exact ⟨X5, .inl (.inr rfl)⟩, m5.ri, m5.ra, m5.ik, m5.ak, hB⟩
                have HNE := Lib.hid (show (Value.slice Aa fr.length ca).ownBlock ≠ some rb from fun e => by
                  have h1 := h4.lt (b := rb) (.inl (HM.out.ak rb e))
                  rw [hrb] at h1
                  exact Nat.lt_irrefl _ h1)
                have US1 := sl_usesB h5 (u : Int)
                rw [US.out, ← PP.out.2.2.2, show ((1 : Nat) : Int) = 1 from rfl] at US1
                have US2 := Lib.hid US1
                have HRB := Lib.hid RB
                have J5 := Lib.hid j5
                have hlx : L.length = N := by rw [hL]; exact HLN.out.2
                have hlx2 : L.length / 64 = n := by rw [hL, HLN.out.1]; exact Nat.mul_div_cancel_left n (by decide)
                have HLX := Lib.hid (And.intro hlx hlx2)
                have hW2 := HW2.out
                rw [← hL] at hW2
                have HW3 := Lib.hid hW2
                have q0 : W5.cell? ⟨rb, 0, none⟩ = some (.int .i64 (u : Int)) := RB.cell 0
                have q1 : W5.cell? ⟨rb, 1, none⟩ = some (.int .i64 (n : Int)) := RB.cell 1
                obtain ⟨lf2, y4, y5, y6⟩ := wr_lf hu hful
                clear h4 f4 b5 RB h5 f5 F5 hB m5 X5 j5 US1 hL hlx hlx2 hW2 HW2 hW5 hrb SW1 HM HF2 HS2 HX3
                go_wp2_with fail
                refine US2.out.mono ?_
                rintro e w6 ⟨rfl, b6⟩
                have J6 := Lib.hid (J5.out.below b6)
                have R6 := HRB.out.keep (b6.block rb HRB.out.lt)
                have R6 := Lib.hid R6
                have q0 : w6.cell? ⟨rb, 0, none⟩ = some (.int .i64 (u : Int)) := R6.out.cell 0
                have q1 : w6.cell? ⟨rb, 1, none⟩ = some (.int .i64 (n : Int)) := R6.out.cell 1
                go_upto_region 30 with fail
                have J0 := Lib.hid (J6.out.below (Below.refl _ _).drew)
                have JPA := Lib.hid (J0.out.below (wr_al (.cells #[.slice (some ⟨xb, 0, none⟩) N N] 22)))
                have JQB := Lib.hid (J0.out.below (wr_al (.cells #[.int .i64 (u : Int), .int .i64 (n : Int)] 33)))
                have JPQ := Lib.hid (JPA.out.below (wr_al (.cells #[.int .i64 (u : Int), .int .i64 (n : Int)] 33)))
                have JQP := Lib.hid (JQB.out.below (wr_al (.cells #[.slice (some ⟨xb, 0, none⟩) N N] 22)))
                have NPA := Lib.hid (Blk.new w6.drew 22 #[.slice (some ⟨xb, 0, none⟩) N N])
                have NQB := Lib.hid (Blk.new w6.drew 33 #[.int .i64 (u : Int), .int .i64 (n : Int)])
                have NPQ := Lib.hid (NPA.out.alloc (.cells #[.int .i64 (u : Int), .int .i64 (n : Int)] 33))
                have NQQ := Lib.hid (wr_new1 w6.drew (.cells #[.slice (some ⟨xb, 0, none⟩) N N] 22) 33 #[.int .i64 (u : Int), .int .i64 (n : Int)])
                have NQP := Lib.hid (NQB.out.alloc (.cells #[.slice (some ⟨xb, 0, none⟩) N N] 22))
                have NPP := Lib.hid (wr_new1 w6.drew (.cells #[.int .i64 (u : Int), .int .i64 (n : Int)] 33) 22 #[.slice (some ⟨xb, 0, none⟩) N N])
                have hf100 : fr.length ≤ 100 := Nat.le_trans hfi (Nat.le_trans hi (Nat.le_trans hqb (by decide)))
                go_region_held3 (fun v => v.cell? ⟨rb, 0, none⟩ = some (.int .i64 (u : Int)) ∧ v.cell? ⟨rb, 1, none⟩ = some (.int .i64 (n : Int))) (first | exact ⟨T8.out.cell 0, T8.out.cell 1⟩ | exact ⟨T7.out.cell 0, T7.out.cell 1⟩ | exact ⟨(T7.out.alloc _).cell 0, (T7.out.alloc _).cell 1⟩ | exact ⟨R6.out.cell 0, R6.out.cell 1⟩ | exact ⟨(R6.out.alloc _).cell 0, (R6.out.alloc _).cell 1⟩ | exact ⟨((R6.out.alloc _).alloc _).cell 0, ((R6.out.alloc _).alloc _).cell 1⟩) (first
                  | (refine step_I JPA.out (xb, u, L) NPA.out HLX.out.1 rfl (.tmp 118) (.tmp 120) rfl rfl rfl hf100 ?_; intro A1 c1 w10 K7 j7 kp; have T7 := Lib.hid (kp rb _ (R6.out.alloc _)); have J7 := Lib.hid (j7.below (wr_al (.cells #[.int .i64 (u : Int), .int .i64 (n : Int)] 33))); have TT := Lib.hid (T7.out.alloc (.cells #[.int .i64 (u : Int), .int .i64 (n : Int)] 33)); have N7 := Lib.hid (Blk.new w10 33 #[.int .i64 (u : Int), .int .i64 (n : Int)]); clear j7 kp)
                  | (refine step_I JPQ.out (xb, u, L) NPQ.out HLX.out.1 rfl (.tmp 118) (.tmp 120) rfl rfl rfl hf100 ?_; intro A1 c1 w10 K7 j7 kp; have T7 := Lib.hid (kp rb _ ((R6.out.alloc _).alloc _)); have J7 := Lib.hid j7; have TT := T7; have N7 := Lib.hid (kp _ _ NQQ.out); clear j7 kp)
                  | (refine step_I JQP.out (xb, u, L) NPP.out HLX.out.1 rfl (.tmp 118) (.tmp 120) rfl rfl rfl hf100 ?_; intro A1 c1 w10 K7 j7 kp; have T7 := Lib.hid (kp rb _ ((R6.out.alloc _).alloc _)); have J7 := Lib.hid j7; have TT := T7; have N7 := Lib.hid (kp _ _ NQP.out); clear j7 kp)
                  | (refine step_A J7.out (xb, u, L) N7.out HLX.out.2 rfl (.tmp 122) (.tmp 124) rfl rfl rfl hf100 ?_; intro A2 c2 w11 K8 j8 kp; have T8 := Lib.hid (kp rb _ HNE.out TT.out); have J8 := Lib.hid j8; clear j8 kp))
                all_goals
                  have J9 := Lib.hid J8.out
                  go_wp2_with fail
                  go_roundw
                  case rel => exact ⟨i + 1, u + n, lf2, V2, _, fr ++ [(xb, u, L)], _, _, _, _, by rw [List.length_append]; rfl, by rw [List.length_append]; rfl, rfl, by go_num, hi2, by rw [List.length_append]; exact Nat.add_le_add_right hfi 1, y6, J9.out.sl, HW3.out, by rw [List.length_append]; exact J9.out.mem⟩
                  case measure => simp [RowKit.intOf]; exact hi3
      · have y0 : decide ((i : Int) < (q : Int)) = false := by rw [decide_eq_false_iff_not]; intro h; exact hiq (Int.ofNat_lt.1 h)
        have y0' : decide (i < q) = false := by rw [decide_eq_false_iff_not]; exact hiq
        have HS1 := Lib.hid hS
        have HW1 := Lib.hid hW
        have HM1 := Lib.hid hM
        have hfr60 : fr.length ≤ 60 := Nat.le_trans hfi (Nat.le_trans hi hqb)
        have hst := Lib.hid (wr_st0 hW (wr_u hu))
        clear hS hW hM
        go_wp2_with fail
        go_loopw [18] (fun v18 wr3 => ∃ (j : Nat) (st3 : PSt), v18 = .int .i64 (j : Int) ∧ j ≤ fr.length ∧ SlS w wr3 P { V with st := st3 } K ∧ RS V.st st3 j ∧ WM w wr3 K fr (.slice Ai fr.length ci) (.slice Aa fr.length ca)) (fun v18 _ => fr.length - (RowKit.intOf v18).toNat)
        case atStart => exact ⟨0, V.st, rfl, Nat.zero_le _, HS1.out, hst.out, HM1.out⟩
        case round =>
          obtain ⟨j, st3, rfl, hj, hS3, hR3, hM3⟩ := hrel
          by_cases hjl : j < fr.length
          · have y1 : decide ((j : Int) < (fr.length : Int)) = true := by rw [decide_eq_true_eq]; exact Int.ofNat_lt.2 hjl
            have y1' : decide (j < fr.length) = true := by rw [decide_eq_true_eq]; exact hjl
            obtain ⟨n, g1, g2, g3, g4, g5, g6⟩ := HW1.out.fr _ (List.getElem_mem hjl)
            obtain ⟨gi, ga, rfl, rfl, b0, a0, a1⟩ := hM3.at hjl
            have hbx := (hM3.blk _ (List.getElem_mem hjl))
            rw [g3, Nat.mul_div_cancel_left n (by decide)] at a1
            obtain ⟨xb, hxb⟩ : ∃ x, fr[j].1 = x := ⟨_, rfl⟩
            obtain ⟨a, ha⟩ : ∃ x, fr[j].2.1 = x := ⟨_, rfl⟩
            obtain ⟨L, hL⟩ : ∃ x, fr[j].2.2 = x := ⟨_, rfl⟩
            rw [ha] at a0
            have HB0 := Lib.hid b0
            rw [ha] at g4 g6
            rw [hL] at g3 g6
            rw [hxb, hL] at hbx
            have ha96 : a + n ≤ 96 := Nat.le_trans g4 (wr_u hu)
            obtain ⟨s1, s2, s3, s4⟩ := hR3.read (Nat.lt_of_lt_of_le hjl hfr60) g2 ha96 g3 g6
            have SR := sread_any hS3 a n g1 (Nat.le_trans g2 (by decide)) (by rw [show ({ V with st := st3 } : SlV).st = st3 from rfl, hR3.len]; exact ha96) s1
            rw [show ({ V with st := st3 } : SlV).st = st3 from rfl, s2, s3, ← PP.out.1] at SR
            obtain ⟨st4, hst4⟩ : ∃ st4, st4 = (st3.rds a n).2.2 := ⟨_, rfl⟩
            rw [← hst4] at s4 SR
            have SR1 := Lib.hid SR
            have HM3 := Lib.hid hM3
            have HR4 := Lib.hid s4
            have HBX := Lib.hid hbx
            have HJ := Lib.hid (And.intro hxb (And.intro ha hL))
            have hj2 : j + 1 ≤ fr.length := hjl
            have hj3 : fr.length - (j + 1) < fr.length - j := Nat.sub_lt_sub_left hjl (Nat.lt_succ_self j)
            clear SR s1 s2 s3 s4 hst4 hbx b0 hM3 hS3 hR3 hxb ha hL g1 g2 g3 g4 g5 g6 ha96 HM1 HS1
            go_wp2_with fail
            refine SR1.out.mono ?_
            rintro e w4 ⟨hr, h4, f4⟩
            unfold RdR at hr
            rw [if_pos rfl] at hr
            obtain ⟨A, c, rfl, ow⟩ := hr
            have hM4 := HM3.out.far f4 (fun b hb => hb) HM3.out.kb
            obtain ⟨gi', ga', e1, e2, b1, -, -⟩ := hM4.at hjl
            cases e1
            rw [HJ.out.1, HJ.out.2.2] at b1
            have k1 := wconv (cap := c) (Sl.of_own ow)
            have k2 := wconv (cap := L.length) (byblk_sl (Blk.keep HBX.out.1 (f4.2 _ HBX.out.2)))
            dsimp only at k1
            obtain ⟨S, hS⟩ : ∃ S, S = strOfNums (L.map fun n : Nat => (n : Int)) := ⟨_, rfl⟩
            rw [← hS] at k1 k2
            obtain ⟨ln, hln⟩ : ∃ ln, L.length = ln := ⟨_, rfl⟩
            dsimp only
            rw [hln] at k1 k2 b1 ⊢
            have k3 : (convert 22 9 (.slice A ln c)).run Try.prog w4.drew = .ok (.string S) w4.drew := by
              have := wconv (cap := c) (w := w4.drew) (Sl.of_own (w := w4.drew) (own_keep ow fun _ _ _ => rfl))
              dsimp only at this
              rw [← hS, hln] at this
              exact this
            have k4 : (convert 22 9 (.slice (some ⟨xb, 0, none⟩) ln ln)).run Try.prog w4.drew = .ok (.string S) w4.drew := by
              have := wconv (cap := L.length) (w := w4.drew) (byblk_sl (w := w4.drew) (Blk.keep HBX.out.1 (f4.2 _ HBX.out.2)))
              rw [← hS, hln] at this
              exact this
            have b2 : w4.drew.cell? ⟨gi, j, none⟩ = some (.slice (some ⟨xb, 0, none⟩) ln ln) := b1
            have H4 := Lib.hid h4
            have HM4 := Lib.hid hM4
            clear h4 hM4 f4 ow hS hln SR1 e2
            go_wp2_with fail
            go_region
            all_goals
              go_wp2_with fail
              go_roundw
              case rel => exact ⟨j + 1, st4, by go_num, hj2, H4.out.drew, HR4.out, HM4.out.far (Far.refl _ _).drew (fun b hb => hb) HM4.out.kb⟩
              case measure => simp [RowKit.intOf]; exact hj3
          · have y1 : decide ((j : Int) < (fr.length : Int)) = false := by rw [decide_eq_false_iff_not]; intro h; exact hjl (Int.ofNat_lt.1 h)
            have y1' : decide (j < fr.length) = false := by rw [decide_eq_false_iff_not]; exact hjl
            have HS3 := Lib.hid hS3
            have HR3 := Lib.hid hR3
            clear hS3 hR3 hM3 HM1 HS1
            have B1 := sread_no HS3.out 95 2 (by unfold I64; decide) (by rw [show ({ V with st := st3 } : SlV).st = st3 from rfl, HR3.out.len]; decide) (by rw [show ({ V with st := st3 } : SlV).st = st3 from rfl, HR3.out.len]; decide)
            rw [← PP.out.1] at B1
            have B1' := Lib.hid B1
            clear B1
            have hmk65 : ∀ W, (Instr.makeSlice 22 (.int .i64 65) (.int .i64 65)).run Try.prog W = .ok (.slice (some ⟨W.heap.size, 0, none⟩) 65 65) (W.alloc (.cells (zcells 65) 5)) := make_bytes 65 (by decide)
            go_wp2_with fail
            refine B1'.out.mono ?_
            rintro e w4 ⟨rfl, h4, f4⟩
            have B2 := sread_no h4 5 0 (by unfold I64; decide) (by rw [show ({ V with st := st3 } : SlV).st = st3 from rfl, HR3.out.len]; decide) (by rw [show ({ V with st := st3 } : SlV).st = st3 from rfl, HR3.out.len]; decide)
            rw [← PP.out.1] at B2
            have B2' := Lib.hid B2
            clear B2 h4 f4 B1' HS3
            go_wp2_with fail
            refine B2'.out.mono ?_
            rintro e w5 ⟨rfl, h5, f5⟩
            have B3 := swrite_bad (h5.step (wr_al (.cells (zcells 65) 5))).1 (A := some ⟨w5.heap.size, 0, none⟩) (cap := 65) (q := 65) (.inr (by decide)) (by decide)
            obtain ⟨z, hz⟩ : ∃ z : Int, z = 0 := ⟨_, rfl⟩
            rw [← PP.out.1, show wriV (0, 0, 1) = .tuple #[.agg #[.int .i64 z, .int .i64 z], .int .i64 1] by rw [hz]; rfl] at B3
            have B3' := Lib.hid B3
            clear B3 h5 f5 B2' hz
            go_wp2_with fail
            refine B3'.out.mono ?_
            rintro e w6 ⟨rfl, h6, f6⟩
            have B4 := sl_back (h6.step (wr_al (.cells #[.int .i64 z, .int .i64 z] 33))).1 (by
              show ShSt (Sh.giveAll V.F (Sh.news V.now V.was)) V.was V.was
              rw [HW1.out.pre.was]
              exact shst_start _)
            rw [← PP.out.2.2.2] at B4
            have B4' := Lib.hid B4
            clear B4 h6 f6 B3'
            go_wp2_with fail
            refine B4'.out.mono ?_
            rintro e w7 ⟨rfl, h7, f7⟩
            have B5 := sl_freeB h7
            rw [← PP.out.2.2.1, show Rn.freeN ({ ({ V with st := st3 } : SlV) with F := Sh.giveAll V.F (Sh.news V.now V.was), now := V.was } : SlV).F = 94 by
              show Rn.freeN (Sh.giveAll V.F (Sh.news V.now V.was)) = 94
              rw [HW1.out.jn]
              decide +kernel] at B5
            have B5' := Lib.hid B5
            have H7 := Lib.hid h7
            clear B5 h7 f7 B4'
            go_wp2_with fail
            refine B5'.out.mono ?_
            rintro e w8 ⟨rfl, b8⟩
            have h8 := (H7.out.step b8).1
            have B6 := sl_blocks h8
            rw [← PP.out.2.1, show ({ ({ V with st := st3 } : SlV) with F := Sh.giveAll V.F (Sh.news V.now V.was), now := V.was } : SlV).st.blocks.length = 96 from HR3.out.len] at B6
            have B6' := Lib.hid B6
            have H8 := Lib.hid h8.bel
            clear B6 h8 b8 B5' H7
            go_wp2_with fail
            refine B6'.out.mono ?_
            rintro e w9 ⟨rfl, rfl⟩
            go_wp2_with fail
            go_ret
            exact ⟨rfl, H8.out⟩
end Go.Proofs.Ytaainefdjbmekaa
