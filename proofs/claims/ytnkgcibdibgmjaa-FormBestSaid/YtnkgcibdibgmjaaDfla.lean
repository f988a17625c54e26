/- The program's flatter. -/
import Derived.Test.YtnkgcibdibgmjaaFlat
import Derived.Test.YtnkgcibdibgmjaaDmk
import Derived.Shelf.SlicesE.IndexFunc
import Derived.Ground.SlgfProg
import Derived.Deep.DeepCutAuto
import Derived.BigQuiet
namespace Go.Proofs.Ytnkgcibdibgmjaa
open Go.RowKit Go.Shelf

/-- The library's IndexFunc, as this program has it. -/
def idxLay_ren : Go.Shelf.Ren := ⟨fun | 6 => 55 | n => n, fun | 0 => 0 | 3 => 3 | 4 => 4 | 22 => 74 | 23 => 3 | 25 => 91 | n => n, fun | n => n⟩
theorem idxLay : SlLaysH.n6 Try.prog idxLay_ren := {
  mixed := by kernel_rfl
  f6 := ⟨Try.f55.name, by decide, Try.func55.trans (congrArg some (by kernel_rfl))⟩
  t0 := Try.underlying0
  a0 := Try.isAgg0
  z0 := Try.sizeOf0
  v0 := Try.zeroValue0
  t3 := Try.underlying3
  a3 := Try.isAgg3
  z3 := Try.sizeOf3
  v3 := Try.zeroValue3
  t4 := Try.underlying4
  a4 := Try.isAgg4
  z4 := Try.sizeOf4
  v4 := Try.zeroValue4
  t22 := Try.underlying74
  a22 := Try.isAgg74
  z22 := Try.sizeOf74
  v22 := Try.zeroValue74
  a23 := Try.isAgg3
  z23 := Try.sizeOf3
  t25 := Try.underlying91
  a25 := Try.isAgg91
  z25 := Try.sizeOf91
  v25 := Try.zeroValue91 }

/-- flatter's test. -/
theorem flat_pred (w : World) : PredAt Try.prog 56 #[] (Value.int .i64) (fun x => decide (x < 11)) w := fun W x _ => by
  unfold FnGives
  go_enter Try.func56, Try.ntmps56
  go_wp2
  go_ret
  exact ⟨rfl, 0, rfl⟩
theorem Fst.hits {n o i : Nat} {R l : List Int} (h : Fst n (o + 1) i R l) (hn : n ≤ 256) : Lib.idxBy (fun _ y => decide (y < 11)) (l.take n) (default : Int) = (i : Int) := by
  obtain ⟨x, R', rfl, _, _, h2, _, _, h3, _⟩ := h.step hn
  have hlen : l.length = n := by rw [h.is, List.length_append, List.length_replicate]; exact h.len
  refine Lib.idxBy_hit (fun _ y => decide (y < 11)) l n i default h2 (by omega) ?_ fun j hj => ?_
  · have : l[i]! = x := by rw [h.is]; simp
    show decide (l[i]! < 11) = true
    rw [this, decide_eq_true_eq]; omega
  · have : l[j]! = 11 := by rw [h.is, getElem!_pos _ _ (by simp; omega), List.getElem_append_left (by simpa using hj), List.getElem_replicate]
    show decide (l[j]! < 11) = false
    rw [this]; rfl
theorem ints_cell {w : World} {lb : Nat} {l : List Int} (h : Blk w lb 3 (ints l)) : ∀ j, j < l.length → w.cell? ⟨lb, 0 + j, none⟩ = some (Value.int .i64 l[j]!) := fun j hj => by
  rw [Nat.zero_add, h.cell, ints_at hj, List.getD_eq_getElem?_getD, getElem!_pos l j hj, List.getElem?_eq_getElem hj]; rfl
/-- The lengths as far as the first loop has come. -/
def flatK (ds : List Int) (k : Nat) : List Int := (ds.take k).map clampV ++ List.replicate (ds.length - k) 0
theorem flatK_len (ds : List Int) {k : Nat} (h : k ≤ ds.length) : (flatK ds k).length = ds.length := by unfold flatK; simp; omega
theorem flatK_next (ds : List Int) {k : Nat} (h : k < ds.length) : (flatK ds k).set k (clampV (ds.getD k 0)) = flatK ds (k + 1) := by
  unfold flatK
  rw [List.set_append_right _ _ (by simp; omega), take_snoc h, List.map_append, List.append_assoc, show k - ((ds.take k).map clampV).length = 0 by simp; omega]
  obtain ⟨m, hm⟩ : ∃ m, ds.length - k = m + 1 := ⟨ds.length - k - 1, by omega⟩
  rw [hm, show ds.length - (k + 1) = m by omega, List.replicate_succ, List.set_cons_zero]
  rfl
theorem flatK_sum (ds : List Int) {k : Nat} (h : k < ds.length) : ksum ((ds.take (k + 1)).map clampV) = ksum ((ds.take k).map clampV) + kterm (clampV (ds.getD k 0)) := by
  rw [take_snoc h, List.map_append, ksum_append]
  simp [ksum]
theorem ksum_small : ∀ l : List Int, ksum (l.map clampV) ≤ 1024 * l.length
  | [] => by simp [ksum]
  | x :: l => by
    have := ksum_small l
    have := kterm_half (clampV x)
    rw [List.map_cons, ksum_cons, List.length_cons]; omega

set_option maxRecDepth 8000 in
set_option maxHeartbeats 8000000 in
theorem flatter_any (ds : List Int) (n : Nat) (D : Deep n ds) (hn2 : n ≤ 256) (A : Option Addr) (c : Nat) (w : World) (hsl : Sl w w.heap.size A (ds.map (Value.int .i64))) :
    Calls Try.prog 43 #[.slice A n c] w fun e w' => ∃ lb, e = .returned (.slice (some ⟨lb, 0, none⟩) n n) ∧ w.heap.size ≤ lb ∧ Sl w' w'.heap.size (some ⟨lb, 0, none⟩) ((flatV ds).map (Value.int .i64)) ∧ Below w.heap.size w w' := by
  have hn := D.len
  have mk := make_ints n (by omega) w
  rw [icells_ints] at mk
  have Lb := Lib.hid (show Blk (w.alloc (.cells (ints (List.replicate n 0)) 3)) w.heap.size 3 (ints (flatK ds 0)) by
    rw [show flatK ds 0 = List.replicate n 0 by unfold flatK; simp [hn]]; exact Blk.new _ _ _)
  have HB := Lib.hid ((Below.refl w.heap.size w).alloc (Nat.le_refl _) (.cells (ints (List.replicate n 0)) 3))
  have Hs := Lib.hid (fun wr (hb : Below w.heap.size w wr) => hsl.below hb)
  have Hn := Lib.hid hn
  have HD := Lib.hid D
  have eg : ∀ args w, (callFunc 56 args).run Try.prog w = .ok (.enter 56 args) w := enters_of Try.func56 (by kernel_rfl) rfl
  have IX := Lib.hid (fun (l : List Int) (lb : Nat) (W : World) (hb : Blk W lb 3 (ints l)) (hl : l.length = n) => AnyE.slices_IndexFunc idxLay (Value.int .i64) (fun x => decide (x < 11)) 56 #[] eg lb 0 n n l W (flat_pred W) (by omega) (by omega) (ints_cell hb))
  clear D hsl hn eg
  go_enter Try.func43, Try.ntmps43
  go_wp2_with fail
  generalize hwr : w.alloc (.cells (ints (List.replicate n 0)) 3) = w5 at *
  go_loopw [4, 5, 6, 13] (fun vo _ _ vk wr => ∃ k : Nat, k ≤ n ∧ vk = .int .i64 k ∧ vo = .int .i64 (((ksum ((ds.take k).map clampV) : Nat) : Int) - 2048) ∧ Blk wr w.heap.size 3 (ints (flatK ds k)) ∧ Below w.heap.size w wr) (fun _ _ _ vk _ => n - (intOf vk).toNat)
  case atStart => exact ⟨0, Nat.zero_le _, rfl, rfl, Lb.out, HB.out⟩
  case round =>
    obtain ⟨k, hk, rfl, rfl, hb, hbl⟩ := hrel
    have HB2 := Lib.hid hb
    have HBl := Lib.hid hbl
    clear hb hbl Lb HB mk
    have hsm := ksum_small (ds.take k)
    rw [List.length_take] at hsm
    have hsm2 : ksum ((ds.take k).map clampV) ≤ 262144 := by omega
    clear hsm
    by_cases hlt : k < n
    · have hltz : (k : Int) < (n : Int) := by omega
      have hkn : k < ds.length := by rw [Hn.out]; exact hlt
      obtain ⟨b, o, rfl, -, hcell⟩ := (Hs.out wr HBl.out).at_ (i := k) (by rw [List.length_map]; exact hkn)
      have cx := hcell k (by rw [List.length_map]; exact hkn)
      rw [List.getElem_map, show ds[k] = ds.getD k 0 by rw [List.getD_eq_getElem?_getD, List.getElem?_eq_getElem hkn]; rfl] at cx
      have Kn := Lib.hid (flatK_sum ds hkn)
      have St := HB2.out.set_ k (.int .i64 (clampV (ds.getD k 0)))
      rw [ints_set, flatK_next ds hkn] at St
      have HSt := Lib.hid St
      have cj : wr.cell? ⟨w.heap.size, k, none⟩ = some (.int .i64 ((flatK ds k).getD k 0)) := by rw [HB2.out.cell, ints_at (by rw [flatK_len ds (by omega), Hn.out]; exact hlt)]
      have fj := HB2.out.frozen k
      generalize (flatK ds k).getD k 0 = y0 at *
      generalize ds.getD k 0 = x at *
      obtain ⟨q, hq⟩ : ∃ q : Nat, clampV x = q := ⟨(clampV x).toNat, by unfold clampV; omega⟩
      have hq1 : 1 ≤ q ∧ q ≤ 11 := by unfold clampV at hq; omega
      rw [hq] at St HSt Kn
      have HBs := Lib.hid (HBl.out.setCell (p := ⟨w.heap.size, k, none⟩) (Nat.le_refl _) (.int .i64 (q : Int)))
      obtain ⟨m, hm⟩ : ∃ m : Int, (if (1 : Int) > x then (1 : Int) else x) = m := ⟨_, rfl⟩
      have hmin0 : (if (11 : Int) < m then (11 : Int) else m) = (q : Int) := by unfold clampV at hq; split at hm <;> split <;> omega
      have hmax : ∀ (ts : Array TypeId) (t : TypeId) (W : World), (Builtin.max_ ts t #[.int .i64 x, .int .i64 1]).run Try.prog W = .ok (.int .i64 m) W := fun ts t W => by rw [run_max_int2, hm]
      have hmin : ∀ (ts : Array TypeId) (t : TypeId) (W : World), (Builtin.min_ ts t #[.int .i64 m, .int .i64 11]).run Try.prog W = .ok (.int .i64 (q : Int)) W := fun ts t W => by rw [run_min_int2, hmin0]
      obtain ⟨Q, hQ⟩ : ∃ Q : Nat, Q = 2 ^ (11 - q) := ⟨_, rfl⟩
      have hQi : (2048 : Int) / 2 ^ q = (Q : Int) := by rw [shr2048 (by omega) hq1.2, hQ]
      have hQk : kterm (q : Int) = Q := by unfold kterm; rw [if_pos (by omega), Int.toNat_natCast, hQ]
      have hQb : Q ≤ 1024 := by rw [← hQk]; exact kterm_half _
      rw [hQk] at Kn
      have cs : (wr.setCell ⟨w.heap.size, k, none⟩ (.int .i64 (q : Int))).cell? ⟨w.heap.size, k, none⟩ = some (.int .i64 (q : Int)) := World.cell?_setCell_same _ _ _ cj
      clear hcell hkn hm hmin0 hq hQ hQk St
      generalize hS : ksum ((ds.take k).map clampV) = S at *
      set_option maxRecDepth 4000 in
      go_wp2_with fail
      go_roundw
      case rel => exact ⟨k + 1, by omega, by go_num, by rw [Kn.out]; go_num, HSt.out, HBs.out⟩
      case measure => simp [intOf]; omega
    · have hltz : ¬ (k : Int) < (n : Int) := by omega
      obtain rfl : k = n := by omega
      have hfin : flatK ds k = ds.map clampV := by unfold flatK; rw [Hn.out, Nat.sub_self, List.take_of_length_le (by rw [Hn.out]; exact Nat.le_refl _)]; simp
      have hfs : (ds.take k).map clampV = ds.map clampV := by rw [List.take_of_length_le (by rw [Hn.out]; exact Nat.le_refl _)]
      have HB3 := HB2.out
      rw [hfin] at HB3
      rw [hfs] at hsm2 ⊢
      have HB4 := Lib.hid HB3
      obtain ⟨z, hz⟩ : ∃ z : Int, z = ((ksum (ds.map clampV) : Nat) : Int) - 2048 := ⟨_, rfl⟩
      rw [← hz]
      have hzb : -2048 ≤ z ∧ z ≤ 262144 := by omega
      have Ht := Lib.hid (show flatIter z.toNat (ds.map clampV) = flatV ds by unfold flatV overV; rw [hz])
      have Hf := Lib.hid (show 0 < z → ∃ i R, Fst k z.toNat i R (ds.map clampV) from fun h0 => by
        by_cases h2 : 2 ≤ k
        · obtain ⟨o, i, R, ho, hF⟩ := clamp_first HD.out h2
          have : z.toNat = o := by unfold overV at ho; omega
          rw [this]; exact ⟨i, R, hF⟩
        · exfalso
          have h3 := ksum_small ds
          rw [Hn.out] at h3
          omega)
      have Hl := Lib.hid (show (ds.map clampV).length = k by rw [List.length_map, Hn.out])
      clear HB3 HB2 hfin hfs hz hsm2 hltz hk hlt
      go_wp2_with fail
      go_loopw [4, 7] (fun vz _ wr => ∃ (z : Int) (l : List Int), vz = .int .i64 z ∧ -2048 ≤ z ∧ z ≤ 262144 ∧ l.length = k ∧ flatIter z.toNat l = flatV ds ∧ (0 < z → ∃ i R, Fst k z.toNat i R l) ∧ Blk wr w.heap.size 3 (ints l) ∧ Below w.heap.size w wr) (fun vz _ _ => (intOf vz).toNat)
      case atStart => exact ⟨z, ds.map clampV, rfl, hzb.1, hzb.2, Hl.out, Ht.out, Hf.out, HB4.out, HBl.out⟩
      case round =>
        obtain ⟨z, l, rfl, hz1, hz2, hl, ht, hf, hb, hbl⟩ := hrel
        have Hl2 := Lib.hid hl
        have Ht2 := Lib.hid ht
        have HB5 := Lib.hid hb
        have HBl5 := Lib.hid hbl
        clear hl ht hb hbl Hl Ht Hf HB4 HBl hzb
        by_cases hgo : 0 < z
        · have q1 : decide (0 < z) = true := decide_eq_true hgo
          obtain ⟨i, R, hF⟩ := hf hgo
          obtain ⟨o, ho⟩ : ∃ o : Nat, z = ((o + 1 : Nat) : Int) := ⟨z.toNat - 1, by omega⟩
          rw [ho, Int.toNat_natCast] at hF
          have Ho := Lib.hid (show z - 1 = (o : Int) by omega)
          have hh := hF.hits hn2
          obtain ⟨x, R', -, hi0, hi1, hi2, hx0, hx1, hx2, hnx⟩ := hF.step hn2
          have Nx := Lib.hid hnx
          have IC := Lib.hid (IX.out l w.heap.size wr HB5.out Hl2.out)
          rw [hh] at IC
          change Hid (Calls Try.prog 55 _ _ _) at IC
          clear hF hh hf hnx
          obtain ⟨j, hj⟩ : ∃ j, j + 1 = i := ⟨i - 1, by omega⟩
          have zj : (i : Int) - 1 = (j : Int) := by omega
          have Hst := Lib.hid (show flatStep l = (l.set i (x + 1)).set j (x + 1) by unfold flatStep; rw [hi0, hx0, ← hj, Nat.add_sub_cancel])
          have Hit := Lib.hid (show flatIter o (flatStep l) = flatV ds by rw [← Ht2.out, ho, Int.toNat_natCast]; rfl)
          clear hi0 Ht2 ho
          go_upto_region 12 with (first | (go_at_call 55; refine IC.out.mono ?_; rintro e w' ⟨rfl, dq, rfl⟩))
          have B6 : Blk (wr.drewN dq) w.heap.size 3 (ints l) := HB5.out
          have HBl6 := Lib.hid (show Below w.heap.size w (wr.drewN dq) from ⟨HBl5.out.os, HBl5.out.tape, HBl5.out.output, HBl5.out.size, HBl5.out.block⟩)
          clear IC
          generalize wr.drewN dq = w6 at *
          have ci : w6.cell? ⟨w.heap.size, i, none⟩ = some (.int .i64 x) := by rw [B6.cell, ints_at (by rw [Hl2.out]; exact hi2), hx0]
          have fi := B6.frozen i
          have B7 := B6.set_ i (.int .i64 (x + 1))
          rw [ints_set] at B7
          have HBl7 := Lib.hid (HBl6.out.setCell (p := ⟨w.heap.size, i, none⟩) (Nat.le_refl _) (.int .i64 (x + 1)))
          have H7 := Lib.hid B7
          clear B7 B6 HBl6
          have hik : (0 : Int) ≤ (i : Int) ∧ (i : Int) < (k : Int) := by omega
          go_upto_region 13 with fail
          have B7 := H7.out
          clear H7
          generalize w6.setCell ⟨w.heap.size, i, none⟩ (.int .i64 (x + 1)) = w7 at *
          have ci7 : w7.cell? ⟨w.heap.size, i, none⟩ = some (.int .i64 (x + 1)) := by
            rw [B7.cell, ints_at (by rw [List.length_set, Hl2.out]; omega), getD_set, if_pos ⟨rfl, by rw [Hl2.out]; exact hi2⟩]
          have cj7 : w7.cell? ⟨w.heap.size, j, none⟩ = some (.int .i64 ((l.set i (x + 1)).getD j 0)) := by rw [B7.cell, ints_at (by rw [List.length_set, Hl2.out]; omega)]
          have fj7 := B7.frozen j
          have B8 := B7.set_ j (.int .i64 (x + 1))
          rw [ints_set, ← Hst.out] at B8
          have HB8 := Lib.hid B8
          have HBl8 := Lib.hid (HBl7.out.setCell (p := ⟨w.heap.size, j, none⟩) (Nat.le_refl _) (.int .i64 (x + 1)))
          generalize (l.set i (x + 1)).getD j 0 = y at *
          have hjk : (0 : Int) ≤ (j : Int) ∧ (j : Int) < (k : Int) := by omega
          clear B7 B8 hj ci fi
          go_wp2_with fail
          go_roundw
          case rel =>
            refine ⟨(o : Int), flatStep l, by rw [← Ho.out], by omega, by have := Ho.out; omega, by rw [Hst.out, List.length_set, List.length_set]; exact Hl2.out, by rw [Int.toNat_natCast]; exact Hit.out, fun _ => ?_, HB8.out, HBl8.out⟩
            rw [Int.toNat_natCast]; exact Nx.out
          case measure => simp [intOf]; omega
        · have q1 : decide (0 < z) = false := decide_eq_false hgo
          have hfin : l = flatV ds := by have := Ht2.out; rw [show z.toNat = 0 by omega] at this; exact this
          have Hfin := Lib.hid hfin
          clear hfin hf
          go_wp2_with fail
          go_ret
          refine ⟨w.heap.size, rfl, Nat.le_refl _, .inr ⟨w.heap.size, 0, rfl, HB5.out.lt, fun i hi => ?_⟩, HBl5.out⟩
          rw [List.length_map, ← Hfin.out] at hi
          rw [Nat.zero_add, HB5.out.cell, ints_at hi, List.getElem_map]
          congr 2
          rw [List.getD_eq_getElem?_getD, List.getElem?_eq_getElem hi]
          simp only [Option.getD_some, Hfin.out]
end Go.Proofs.Ytnkgcibdibgmjaa
