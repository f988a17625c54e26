/- PlatterKeeps, walked. -/
import Derived.Test.YtdengokonaljpaaPkw
namespace Go.Proofs.Ytdengokonaljpaa
open Go.RowKit Go.Maps

theorem at_full1 {B : Nat} {w : World} {p : Nat} {st : PSt} {ks : List (Nat × List Nat)} (h : At B w p st ks) (b : Nat) :
    Calls Try.prog 19 #[.int .u8 ((b : Int) + 1)] w fun e w' => e = .returned (.slice (some ⟨w.heap.size, 0, none⟩) 64 64) ∧ At B w' p st ((w.heap.size, all64 (b + 1)) :: ks) ∧ Below B w w' := by
  rw [show (b : Int) + 1 = ((b + 1 : Nat) : Int) by omega]
  exact at_full h (b + 1)
set_option maxRecDepth 10000 in
set_option maxHeartbeats 4000000 in
theorem keeps_any (A : Option Addr) (capa : Nat) (ws : List Nat) (hws : ∀ x ∈ ws, x < 256) (K : Option Addr) (capk : Nat) (keep : List Bool) (w : World) (hsa : Sl w w.heap.size A (byts ws)) (hsk : Sl w w.heap.size K (bools keep)) :
    Calls Try.prog 5 #[.slice A ws.length capa, .slice K keep.length capk] w fun e w' => e = .returned (.bool true) ∧ Below w.heap.size w w' := by
  by_cases h100 : 100 < ws.length
  · have q1 : decide (100 < (ws.length : Int)) = true := by simp; omega
    go_enter Try.func5, Try.ntmps5
    go_wp2_with fail
    refine (pawake _).mono ?_
    rintro e wa ⟨rfl, Ba⟩
    go_wp2_with fail
    go_ret
    exact ⟨rfl, Ba⟩
  by_cases h200 : 200 < keep.length
  · have q1 : decide (100 < (ws.length : Int)) = false := by simp; omega
    have q2 : decide (200 < (keep.length : Int)) = true := by simp; omega
    go_enter Try.func5, Try.ntmps5
    go_wp2_with fail
    refine (pawake _).mono ?_
    rintro e wa ⟨rfl, Ba⟩
    go_wp2_with fail
    go_ret
    exact ⟨rfl, Ba⟩
  have h100 : ws.length ≤ 100 := by omega
  have h200 : keep.length ≤ 200 := by omega
  have q1 : decide (100 < (ws.length : Int)) = false := by simp; omega
  have q2 : decide (200 < (keep.length : Int)) = false := by simp; omega
  have M0 := mild_new 64
  go_enter Try.func5, Try.ntmps5
  go_wp2_with fail
  refine (pawake _).mono ?_
  rintro e wa ⟨rfl, Ba⟩
  go_wp2_with fail
  refine (at_new 64 (by omega) (by omega) _).mono ?_
  rintro e w1 ⟨rfl, A1, B1⟩
  go_wp2_with fail
  have hle := Ba.size
  have A2 := A1.zeros 50
  have A3 := A2.zeros 50
  have hz1 := A1.1
  have Bw : Below w.heap.size w ((w1.alloc (.cells #[.int .u8 0, .int .u8 0, .int .u8 0, .int .u8 0, .int .u8 0, .int .u8 0, .int .u8 0, .int .u8 0] 50)).alloc (.cells #[.int .u8 0, .int .u8 0, .int .u8 0, .int .u8 0, .int .u8 0, .int .u8 0, .int .u8 0, .int .u8 0] 50)) := ((Ba.trans (B1.mono hle)).alloc (by omega) _).alloc (by simp; omega) _
  clear A1 A2 B1 M0
  have hg1 : wa.heap.size ≤ w1.heap.size + 1 := by omega
  have hg0 : wa.heap.size ≤ w1.heap.size := by omega
  go_loopw [9] (fun v wr => ∃ j : Nat, j ≤ ws.length ∧ v = .int .i64 j ∧ At wa.heap.size wr (wa.heap.size + 1) (kst ws j) [(w1.heap.size + 1, nowL ws (fun _ => true) j), (w1.heap.size, nowL ws (fun i => keep.getD i false) j)] ∧ Below w.heap.size w wr) (fun v _ => ws.length - (intOf v).toNat)
  case atStart => exact ⟨0, by omega, rfl, by rw [nowL_zero, nowL_zero, show kst ws 0 = newSt 64 from rfl]; simpa using A3, Bw⟩
  case round =>
    obtain ⟨j, hj, rfl, hA, hbr⟩ := hrel
    clear A3 Bw Ba
    by_cases hlt : j < ws.length
    · obtain ⟨ba, oa, rfl, hba, hc⟩ := (hsa.below hbr).at_ (i := j) (by simpa [byts] using hlt)
      obtain ⟨x, hx⟩ : ∃ x, x = ws[j] := ⟨_, rfl⟩
      have hx256 : x < 256 := by rw [hx]; exact hws _ (List.getElem_mem _)
      have hcell : wr.cell? ⟨ba, oa + j, none⟩ = some (.int .u8 (x : Int)) := by
        have := hc j (by simpa [byts] using hlt)
        rw [this]; simp [byts, hx]
      have hkn : kn ws j = x % 8 := by rw [kn, List.getD, List.getElem?_eq_getElem hlt, hx]; rfl
      obtain ⟨k, hk8, hk⟩ : ∃ k : Nat, (x : Int) % 8 = (k : Int) ∧ kn ws j = k := ⟨x % 8, by omega, hkn⟩
      have hkl : k < 8 := hk ▸ kn_lt ws j
      have e1 : (kst ws j).write (k : Int) (all64 (j + 1)) = (0, kst ws (j + 1)) := by rw [kst, hk]; exact write_yes (kst_mild ws j).p (by rw [(kst_mild ws j).b]; omega) (all64_length _)
      have E1 := Lib.hid e1
      have Hn := Lib.hid (nowL_yes (ws := ws) (f := fun _ => true) (i := j) rfl)
      have Hk := Lib.hid hk
      have Hsm := Lib.hid ((kst_mild ws j).small (by omega) (by omega))
      have hgw := hA.1
      clear hc hx hkn e1 hk
      go_wp2_with fail
      refine (at_full1 hA j).mono ?_
      rintro e w2 ⟨rfl, A2, B2⟩
      go_wp2_with fail
      refine (Go.Proofs.Ytdengokonaljpaa.wr A2 Hsm.out (List.mem_cons_self ..) (all64_length _) (all64_bytes (by omega)) E1.out).mono ?_
      rintro e w3 ⟨rfl, A3, B3⟩
      have A4 := Lib.hid (A3.less (ks' := [(w1.heap.size + 1, nowL ws (fun _ => true) j), (w1.heap.size, nowL ws (fun i => keep.getD i false) j)]) (by simp))
      have f4 := A4.out.fz_ (List.mem_cons_self ..) k
      have c4 := A4.out.cell_ (List.mem_cons_self ..) (nowL_get ws (fun _ => true) j hkl)
      have hs := A4.out.set_ hg1 (by simp) k (j + 1)
      have hwj : (Value.int .u8 ((j + 1 : Nat) : Int)) = .int .u8 ((j : Int) + 1) := by simp
      have hn := Hn.out
      rw [Hk.out] at hn
      rw [hwj, hn] at hs
      obtain ⟨A5, B5⟩ := hs
      have f5 := A5.fz_ (List.mem_cons_of_mem _ (List.mem_cons_self ..)) k
      have c5 := A5.cell_ (List.mem_cons_of_mem _ (List.mem_cons_self ..)) (nowL_get ws (fun i => keep.getD i false) j hkl)
      have A5h := Lib.hid A5
      have Bh := Lib.hid (((hbr.trans (B2.mono hle)).trans (B3.mono hle)).trans (B5.mono hle))
      clear hn hwj A2 A3 A5 B2 B3 B5 hbr hA
      by_cases hjk : j < keep.length
      · obtain ⟨bk, ok, rfl, hbk, hck⟩ := (hsk.below Bh.out).at_ (i := j) (by simpa [bools] using hjk)
        by_cases hkj : keep[j] = true
        · have ck := hck j (by simpa [bools] using hjk)
          have qd : decide (j < keep.length) = true := by simp; omega
          simp only [bools, List.getElem_map, hkj] at ck
          clear hck
          have hwk := nowL_yes (ws := ws) (f := fun i => keep.getD i false) (i := j) (by simp [List.getD, hjk, hkj])
          rw [Hk.out] at hwk
          have hs2 := (A5h.out.less (ks' := [(w1.heap.size, nowL ws (fun i => keep.getD i false) j), (w1.heap.size + 1, nowL ws (fun _ => true) (j + 1))]) (by simp)).set_ hg0 (by simp) k (j + 1)
          rw [show (Value.int .u8 ((j + 1 : Nat) : Int)) = .int .u8 ((j : Int) + 1) by simp, hwk] at hs2
          have A6 := Lib.hid (hs2.1.less (ks' := [(w1.heap.size + 1, nowL ws (fun _ => true) (j + 1)), (w1.heap.size, nowL ws (fun i => keep.getD i false) (j + 1))]) (by simp))
          have B6 := Lib.hid (Bh.out.trans (hs2.2.mono hle))
          clear hs2 hwk
          go_wp2_with fail
          go_roundw
          case rel => exact ⟨j + 1, by omega, by go_num, A6.out, B6.out⟩
          case measure => simp [intOf]; omega
        · have hkj' : keep[j] = false := by simpa using hkj
          have ck := hck j (by simpa [bools] using hjk)
          have qd : decide (j < keep.length) = true := by simp; omega
          simp only [bools, List.getElem_map, hkj'] at ck
          have hwk := nowL_no (ws := ws) (f := fun i => keep.getD i false) (i := j) (by simp [List.getD, hjk, hkj'])
          have A6 := A5h.out
          rw [hwk] at A6
          have A6 := Lib.hid A6
          clear hck hwk hkj hkj'
          go_wp2_with fail
          go_roundw
          case rel => exact ⟨j + 1, by omega, by go_num, A6.out, Bh.out⟩
          case measure => simp [intOf]; omega
      · have qd : decide (j < keep.length) = false := by simp; omega
        have hwk := nowL_no (ws := ws) (f := fun i => keep.getD i false) (i := j) (by simp [List.getD, List.getElem?_eq_none (show keep.length ≤ j by omega)])
        have A6 := A5h.out
        rw [hwk] at A6
        have A6 := Lib.hid A6
        clear hwk
        go_wp2_with fail
        go_roundw
        case rel => exact ⟨j + 1, by omega, by go_num, A6.out, Bh.out⟩
        case measure => simp [intOf]; omega
    · have hjn : j = ws.length := by omega
      subst hjn
      clear hlt hj
      have HA := Lib.hid hA
      have HB := Lib.hid hbr
      have qj : decide (ws.length < ws.length) = false := by simp
      clear hA hbr
      go_wp2_with fail
      go_loopw [11] (fun v wr => ∃ r : Nat, r ≤ 8 ∧ v = .int .i64 r ∧ At wa.heap.size wr (wa.heap.size + 1) (reads (kst ws ws.length) r) [(w1.heap.size + 1, nowL ws (fun _ => true) ws.length), (w1.heap.size, nowL ws (fun i => keep.getD i false) ws.length)] ∧ Below w.heap.size w wr) (fun v _ => 8 - (intOf v).toNat)
      case atStart => exact ⟨0, by omega, rfl, HA.out, HB.out⟩
      case round =>
        rename_i wr0 _ _
        obtain ⟨r, hr, rfl, hA, hbr⟩ := hrel
        by_cases hlt : r < 8
        · have q8 : decide ((r : Int) < 8) = true := by simp; omega
          have M := reads_mild (kst_mild ws ws.length) r
          have e1 : (reads (kst ws ws.length) r).read (r : Int) = (0, all64 (kw ws (fun _ => true) r ws.length)) := by
            rw [read_yes M.p (by rw [M.b]; omega), reads_look, kst_look ws r (by omega)]
          have hv : kw ws (fun _ => true) r ws.length < 256 := by have := kw_le ws (fun _ => true) r ws.length; omega
          have hget := nowL_get ws (fun _ => true) ws.length hlt
          generalize kw ws (fun _ => true) r ws.length = v at *
          have Hg := Lib.hid hget
          have hm := M.small (by omega) (by omega)
          have Hm := Lib.hid hm
          have E1 := Lib.hid e1
          clear e1 M hget hm
          go_wp2_with fail
          refine (rd hA Hm.out E1.out (all64_length _)).mono ?_
          rintro e w2 ⟨m1, rfl, A2, B2⟩
          go_wp2_with fail
          have c0 : w2.drew.cell? ⟨w1.heap.size + 1, r, none⟩ = some (.int .u8 (v : Int)) := A2.drew.cell_ (g := w1.heap.size + 1) (l := nowL ws (fun _ => true) ws.length) (by simp) Hg.out
          have k0 := at_conv A2.drew (m := m1) (by simp) (all64_length v)
          obtain ⟨s, hs⟩ : ∃ s, str (all64 v) = s := ⟨_, rfl⟩
          rw [hs] at k0
          have FK := Lib.hid (full_kept A2 (m1 := m1) (by simp) (g := w1.heap.size + 1) (l := nowL ws (fun _ => true) ws.length) (by simp) Hg.out hs)
          have Bh := Lib.hid (hbr.trans (B2.mono hle))
          clear hs hA A2 hbr B2
          go_region_held_law (fun w' => (convert 49 9 (.slice (some ⟨m1, 0, none⟩) 64 64)).run Try.prog w' = .ok (.string s) w' ∧ w'.cell? ⟨w1.heap.size + 1, r, none⟩ = some (.int .u8 (v : Int))) (first | exact ⟨k0, c0⟩ | exact ⟨k2, c2⟩)
            (first | (go_at_call 19; refine FK.out.mono ?_; rintro e w3 ⟨rfl, A3, B3, k3, k2, c2⟩))
          have A4 := Lib.hid (A3.less (ks' := [(w1.heap.size + 1, nowL ws (fun _ => true) ws.length), (w1.heap.size, nowL ws (fun i => keep.getD i false) ws.length)]) (by simp))
          have B4 := Lib.hid (Bh.out.trans (B3.mono hle))
          clear A3 B3 k0 c0 k2 k3 c2
          go_wp2_with fail
          go_roundw
          case rel => exact ⟨r + 1, by omega, by go_num, A4.out, B4.out⟩
          case measure => simp [intOf]; omega
        · have hr8 : r = 8 := by omega
          subst hr8
          clear hlt hr
          have q8 : decide (((8 : Nat) : Int) < 8) = false := rfl
          have hcl : (reads (kst ws ws.length) 8).cache.length = ws.length := by rw [(reads_parts _ 8).1, kst_cache, List.length_map, List.length_range]
          have Hc := Lib.hid (at_cached hA)
          rw [hcl] at Hc
          have Hcr := Lib.hid (at_crash hA ((reads_mild (kst_mild ws ws.length) 8).small (by omega) (by omega)) (cap := capk) ((hsk.below hbr).more hle))
          have HB := Lib.hid hbr
          clear hcl hA hbr
          go_wp2_with (first
            | (go_at_call 15; refine Hc.out.mono ?_; rintro e w' ⟨rfl, rfl⟩))
          refine Hcr.out.mono ?_
          rintro e w4 ⟨rfl, A4, B4⟩
          have HA := Lib.hid (A4.less (ks' := [(w1.heap.size, nowL ws (fun i => keep.getD i false) ws.length)]) (by simp))
          have HB4 := Lib.hid (HB.out.trans (B4.mono hle))
          clear A4 B4 Hc
          go_wp2_with fail
          go_loopw [14] (fun v wr => ∃ r : Nat, r ≤ 8 ∧ v = .int .i64 r ∧ At wa.heap.size wr (wa.heap.size + 1) (reads ((reads (kst ws ws.length) 8).crash keep) r) [(w1.heap.size, nowL ws (fun i => keep.getD i false) ws.length)] ∧ Below w.heap.size w wr) (fun v _ => 8 - (intOf v).toNat)
          case atStart => exact ⟨0, by omega, rfl, HA.out, HB4.out⟩
          case round =>
            obtain ⟨r, hr, rfl, hA, hbr⟩ := hrel
            by_cases hlt : r < 8
            · have q8 : decide ((r : Int) < 8) = true := by simp; omega
              have M := reads_mild ((reads_mild (kst_mild ws ws.length) 8).crash keep) r
              have e1 : (reads ((reads (kst ws ws.length) 8).crash keep) r).read (r : Int) = (0, all64 (kw ws (fun i => keep.getD i false) r ws.length)) := by
                rw [read_yes M.p (by rw [M.b]; omega), reads_look, crash_look ws keep ws.length 8 r (by omega)]
              have hv : kw ws (fun i => keep.getD i false) r ws.length < 256 := by have := kw_le ws (fun i => keep.getD i false) r ws.length; omega
              have hget := nowL_get ws (fun i => keep.getD i false) ws.length hlt
              generalize kw ws (fun i => keep.getD i false) r ws.length = v at *
              have Hg := Lib.hid hget
              have hm := M.small (by omega) (by omega)
              have Hm := Lib.hid hm
              have E1 := Lib.hid e1
              clear e1 M hget hm
              go_wp2_with fail
              refine (rd hA Hm.out E1.out (all64_length _)).mono ?_
              rintro e w2 ⟨m1, rfl, A2, B2⟩
              go_wp2_with fail
              have c0 : w2.drew.cell? ⟨w1.heap.size, r, none⟩ = some (.int .u8 (v : Int)) := A2.drew.cell_ (g := w1.heap.size) (l := nowL ws (fun i => keep.getD i false) ws.length) (by simp) Hg.out
              have k0 := at_conv A2.drew (m := m1) (by simp) (all64_length v)
              obtain ⟨s, hs⟩ : ∃ s, str (all64 v) = s := ⟨_, rfl⟩
              rw [hs] at k0
              have FK := Lib.hid (full_kept A2 (m1 := m1) (by simp) (g := w1.heap.size) (l := nowL ws (fun i => keep.getD i false) ws.length) (by simp) Hg.out hs)
              have Bh := Lib.hid (hbr.trans (B2.mono hle))
              clear hs hA A2 hbr B2
              go_region_held_law (fun w' => (convert 49 9 (.slice (some ⟨m1, 0, none⟩) 64 64)).run Try.prog w' = .ok (.string s) w' ∧ w'.cell? ⟨w1.heap.size, r, none⟩ = some (.int .u8 (v : Int))) (first | exact ⟨k0, c0⟩ | exact ⟨k2, c2⟩)
                (first | (go_at_call 19; refine FK.out.mono ?_; rintro e w3 ⟨rfl, A3, B3, k3, k2, c2⟩))
              have A4 := Lib.hid (A3.less (ks' := [(w1.heap.size, nowL ws (fun i => keep.getD i false) ws.length)]) (by simp))
              have B4 := Lib.hid (Bh.out.trans (B3.mono hle))
              clear A3 B3 k0 c0 k2 k3 c2
              go_wp2_with fail
              go_roundw
              case rel => exact ⟨r + 1, by omega, by go_num, A4.out, B4.out⟩
              case measure => simp [intOf]; omega
            · have hr8 : r = 8 := by omega
              subst hr8
              clear hlt hr
              have q8 : decide (((8 : Nat) : Int) < 8) = false := rfl
              have Hc := Lib.hid (at_cached hA)
              have hcl : (reads ((reads (kst ws ws.length) 8).crash keep) 8).cache.length = 0 := by rw [(reads_parts _ 8).1]; rfl
              rw [hcl] at Hc
              have HB := Lib.hid hbr
              clear hcl hA hbr
              go_wp2_with (first
                | (go_at_call 15; refine Hc.out.mono ?_; rintro e w' ⟨rfl, rfl⟩))
              go_ret
              exact ⟨rfl, HB.out⟩
end Go.Proofs.Ytdengokonaljpaa
