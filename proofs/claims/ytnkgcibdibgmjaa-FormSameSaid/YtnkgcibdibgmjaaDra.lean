/- cmp.Compare, rarestFirst's comparison, rarestFirst. The program's rarestFirst. -/
import Derived.Test.YtnkgcibdibgmjaaDsg
import Derived.Test.YtnkgcibdibgmjaaDmk
import Derived.Lib.OwnBridge
import Derived.Deep.DeepCutAuto
import Derived.BigQuiet
namespace Go.Proofs.Ytnkgcibdibgmjaa
open Go.RowKit Go.Shelf Go.Sort

theorem dnan_any (x : Int) (w : World) : Calls Try.prog 64 #[.int .i64 x] w fun e w' => e = .returned (.bool false) ∧ w' = w := by
  go_enter Try.func64, Try.ntmps64
  go_wp2_with fail
  go_ret
  exact ⟨by simp, rfl⟩
theorem compare_any (x y : Int) (w : World) : Calls Try.prog 54 #[.int .i64 x, .int .i64 y] w fun e w' => e = .returned (.int .i64 (if x < y then -1 else if y < x then 1 else 0)) ∧ w' = w := by
  have N := Lib.hid (fun x w => dnan_any x w)
  by_cases h1 : x < y
  · have q1 : decide (x < y) = true := decide_eq_true h1
    rw [if_pos h1]
    go_enter Try.func54, Try.ntmps54
    go_wp2_with (first | (go_at_call 64; refine (N.out _ _).mono ?_; rintro e w' ⟨rfl, hw'⟩; subst w'))
    go_ret
    exact ⟨rfl, rfl⟩
  · have q1 : decide (x < y) = false := decide_eq_false h1
    rw [if_neg h1]
    by_cases h2 : y < x
    · have q2 : decide (y < x) = true := decide_eq_true h2
      rw [if_pos h2]
      go_enter Try.func54, Try.ntmps54
      go_wp2_with (first | (go_at_call 64; refine (N.out _ _).mono ?_; rintro e w' ⟨rfl, hw'⟩; subst w'))
      go_ret
      exact ⟨rfl, rfl⟩
    · have q2 : decide (y < x) = false := decide_eq_false h2
      rw [if_neg h2]
      go_enter Try.func54, Try.ntmps54
      go_wp2_with (first | (go_at_call 64; refine (N.out _ _).mono ?_; rintro e w' ⟨rfl, hw'⟩; subst w'))
      go_ret
      exact ⟨rfl, rfl⟩

/-- The counts, told of byte values. -/
def cnt (cl : List Int) (x : Fin 256) : Int := cl.getD x.val 0
set_option maxHeartbeats 2000000 in
theorem closure_any (cl : List Int) (b : Nat) (W : World) (hc : ∀ k, k < 256 → W.cell? ⟨b, k, none⟩ = some (.int .i64 (cl.getD k 0))) (x y : Fin 256) :
    Calls Try.prog 53 (#[encF x, encF y] ++ #[.pointer (some ⟨b, 0, none⟩)]) W fun e w' => e = .returned (.int .i64 (cmpV (cnt cl) x y)) ∧ ∃ q, w' = W.drewN q := by
  have i1 := index256 .i64 x.isLt b
  have i2 := index256 .i64 y.isLt b
  have c1 := hc x.val x.isLt
  have c2 := hc y.val y.isLt
  have E : cmpV (cnt cl) x y = if cl.getD x.val 0 < cl.getD y.val 0 then -1 else if cl.getD y.val 0 < cl.getD x.val 0 then 1 else 0 := rfl
  rw [E]
  clear hc E
  unfold encF
  generalize cl.getD x.val 0 = cx at *
  generalize cl.getD y.val 0 = cy at *
  generalize x.val = xv at *
  generalize y.val = yv at *
  have C := Lib.hid (fun k => show Calls Try.prog 54 #[.int .i64 cx, .int .i64 cy] (W.drewN k) fun e w' => e = .returned (.int .i64 (if cx < cy then -1 else if cy < cx then 1 else 0)) ∧ ∃ n, w' = W.drewN n from (compare_any cx cy (W.drewN k)).mono fun e w' h => ⟨h.1, k, h.2⟩)
  generalize (if cx < cy then (-1 : Int) else if cy < cx then 1 else 0) = r at *
  go_enter Try.func53, Try.ntmps53
  go_wp2_with fail
  go_quiet ((first | (go_at_call 54; with_reducible exact C.out _)))
  go_wp2_with fail
  go_ret
  exact ⟨rfl, _, rfl⟩
end Go.Proofs.Ytnkgcibdibgmjaa

namespace Go.Proofs.Ytnkgcibdibgmjaa
open Go.RowKit Go.Shelf Go.Sort

/-- The byte values that occur, ascending; those below k. -/
def occ (cl : List Int) : List (Fin 256) := (List.finRange 256).filter fun x => decide (0 < cnt cl x)
def occK (cl : List Int) (k : Nat) : List (Fin 256) := ((List.finRange 256).take k).filter fun x => decide (0 < cnt cl x)
theorem occK_all (cl : List Int) : occK cl 256 = occ cl := by unfold occK occ; rw [List.take_of_length_le (by simp)]
theorem occK_next (cl : List Int) {k : Nat} (hk : k < 256) : occK cl (k + 1) = if 0 < cl.getD k 0 then occK cl k ++ [⟨k, hk⟩] else occK cl k := by
  unfold occK
  rw [List.take_add_one, List.getElem?_eq_getElem (by simpa using hk), List.filter_append]
  have e : ((List.finRange 256)[k]'(by simpa using hk)) = (⟨k, hk⟩ : Fin 256) := by simp
  rw [e]
  show _ ++ List.filter _ [(⟨k, hk⟩ : Fin 256)] = _
  by_cases h : 0 < cl.getD k 0
  · rw [if_pos h, List.filter_cons_of_pos (by unfold cnt; exact decide_eq_true h), List.filter_nil]
  · rw [if_neg h, List.filter_cons_of_neg (by unfold cnt; simpa using h), List.filter_nil, List.append_nil]
theorem occK_len (cl : List Int) (k : Nat) : (occK cl k).length ≤ k := by
  unfold occK
  refine Nat.le_trans (List.length_filter_le _ _) ?_
  rw [List.length_take]; omega
theorem occ_up (cl : List Int) : (occ cl).Pairwise (fun x y => x.val < y.val) := by
  have : (List.finRange 256).Pairwise (fun x y : Fin 256 => x.val < y.val) := (List.pairwise_lt_finRange 256).imp fun h => h
  exact this.sublist List.filter_sublist

theorem sorted_below {w0 W : World} {blk B : Nat} {L : List (Fin 256)} (h : Sl1 w0 blk L W) (hB : B ≤ blk) (hB2 : B ≤ w0.heap.size) : Below B w0 W := by
  obtain ⟨m, os, rfl⟩ := h
  have h1 : Below B w0 (putRow encF (Sort.ahead w0 m) blk 0 L.toArray) := Lib.below_putRow (Below.refl _ _) hB
  unfold sortWorld
  refine ⟨h1.os, h1.tape, h1.output, by rw [size_grow]; have := h1.size; omega, fun k hk => ?_⟩
  rw [← h1.block k hk]
  exact heap_grow_old _ _ (by have := h1.size; omega)
theorem sorted_cell {w0 : World} {blk m b k : Nat} {dk : Array (Fin 256)} {os : Array Obj} {v : Value} (hne : b ≠ blk) (h : w0.cell? ⟨b, k, none⟩ = some v) : (sortWorld encF w0 blk 0 m dk os).cell? ⟨b, k, none⟩ = some v := by
  have hb := World.block_lt_of_cell? w0 _ h
  have h0 : (putRow encF (Sort.ahead w0 m) blk 0 dk).heap.size = w0.heap.size := by simp [putRow, mapBlock, Sort.ahead]
  unfold sortWorld
  rw [cell?_grow _ _ _ (by rw [h0]; exact hb), cell?_putRow_other encF _ blk 0 dk _ (Or.inl hne)]
  exact h

/-- The sort of a row of one's own by the counts in block b. -/
theorem sort_own {w : World} {base b cap n : Nat} {A : Option Addr} {cl : List Int} {L : List (Fin 256)} (own : w.ownsRow base 3 1 (.slice A n cap) n (L.map encF)) (hn : 0 < n) (hn2 : n ≤ 256) (hb : b < base) (hL : L.Pairwise (fun x y => x.val < y.val)) (hc : ∀ k, k < 256 → w.cell? ⟨b, k, none⟩ = some (.int .i64 (cl.getD k 0))) :
    Calls Try.prog 52 #[.slice A n cap, .func (.func 53) #[] #[.pointer (some ⟨b, 0, none⟩)]] w fun e w' => e = .returned (.tuple #[]) ∧ ∃ Z : List (Fin 256), Z.Perm L ∧ Z.Pairwise (Tot (cnt cl)) ∧ Sl w' w'.heap.size A (Z.map encF) ∧ ∀ B, B ≤ base → Below B w w' := by
  obtain ⟨g, cap', hv, hbg, hgw, hncap, hcm, hLn, hH⟩ := Lib.holds_of_ownsRow own (by intro e; injection e with _ h1 _; omega)
  injection hv with hA _ _
  subst hA
  have R : Row1 encF w g 0 L.toArray := ⟨encF_one, hH, hgw⟩
  have s : Srt w g n := ⟨⟨L.toArray, by simpa using hLn, R⟩, hn2⟩
  have C : Cmp (cnt cl) 53 #[.pointer (some ⟨b, 0, none⟩)] w g n := by
    refine ⟨enters_of Try.func53 (by kernel_rfl) rfl, fun m os dk _ x y => ?_⟩
    refine (closure_any cl b _ (fun k hk => sorted_cell (by omega) (hc k hk)) x y).mono ?_
    rintro e w' ⟨he, q, hw⟩
    exact ⟨he, q, #[], by rw [grow_empty]; exact hw⟩
  refine (sort_any s C cap L hL hLn w (SW.start hH)).mono ?_
  rintro e w' ⟨rfl, Z, hZ, hp, hw⟩
  have hZl : Z.length = n := by rw [hZ.length_eq, hLn]
  have hbel := sorted_below hw (Nat.le_refl g) (Nat.le_of_lt hgw)
  refine ⟨rfl, Z, hZ, hp, .inr ⟨g, 0, rfl, by have := hbel.size; omega, fun i hi => ?_⟩, fun B hB => hbel.mono (by omega)⟩
  rw [List.length_map] at hi
  rw [Nat.zero_add, hw.at_ s hZl (u := Z[i]) (by omega) (by simp [hi]), List.getElem_map]

theorem ins_none (fv : Value) (w : World) : Calls Try.prog 72 #[.slice none 0 0, .int .i64 0, .int .i64 0, fv] w fun e w' => e = .returned (.tuple #[]) ∧ w' = w := by
  go_enter Try.func72, Try.ntmps72
  go_wp2_with fail
  go_loopw [8, 9] (fun vi _ wr => vi = .int .i64 1 ∧ wr = w) (fun _ _ _ => 0)
  case atStart => exact ⟨rfl, rfl⟩
  case round =>
    obtain ⟨rfl, rfl⟩ := hrel
    go_wp2_with fail
    go_end0
    exact ⟨rfl, rfl⟩
set_option maxRecDepth 8000 in
theorem stable_none (fv : Value) (w : World) : Calls Try.prog 63 #[.slice none 0 0, .int .i64 0, fv] w fun e w' => e = .returned (.tuple #[]) ∧ w' = w := by
  have I := Lib.hid (fun w => ins_none fv w)
  go_enter Try.func63, Try.ntmps63
  go_wp2_with fail
  go_loopw [7, 8] (fun va vb wr => va = .int .i64 0 ∧ vb = .int .i64 20 ∧ wr = w) (fun _ _ _ => 0)
  case atStart => exact ⟨rfl, rfl, rfl⟩
  case round =>
    obtain ⟨rfl, rfl, rfl⟩ := hrel
    go_wp2_with (first | (go_at_call 72; refine (I.out _).mono ?_; rintro e w' ⟨rfl, hw'⟩; subst w'))
    go_loopw [6, 7, 8, 9] (fun vm _ _ _ wx => vm = .int .i64 20 ∧ wx = wr) (fun _ _ _ _ _ => 0)
    case atStart => exact ⟨rfl, rfl⟩
    case round =>
      obtain ⟨rfl, rfl⟩ := hrel
      go_wp2_with fail
      go_end0
      exact ⟨rfl, rfl⟩
theorem sort_none (fv : Value) (w : World) : Calls Try.prog 52 #[.slice none 0 0, fv] w fun e w' => e = .returned (.tuple #[]) ∧ w' = w := by
  have K := Lib.hid (stable_none fv w)
  go_enter Try.func52, Try.ntmps52
  go_wp2_with (first | (go_at_call 63; refine K.out.mono ?_; rintro e w' ⟨rfl, hw'⟩; subst w'))
  go_end0
  exact ⟨rfl, rfl⟩

set_option maxRecDepth 4000 in
set_option maxHeartbeats 8000000 in
theorem rarest_any (cl : List Int) (hl : cl.length = 256) (w : World) :
    Calls Try.prog 42 #[.agg (ints cl)] w fun e w' => ∃ (A : Option Addr) (n cap : Nat) (Z : List (Fin 256)), e = .returned (.slice A n cap) ∧ Z.length = n ∧ Z.Perm (occ cl) ∧ Z.Pairwise (Tot (cnt cl)) ∧ Sl w' w'.heap.size A (Z.map encF) ∧ Below w.heap.size w w' := by
  obtain ⟨t, N, ht, hN, hagg, hix, hund, hsz, -⟩ := t256
  obtain ⟨C, hC⟩ : ∃ C, C = ints cl := ⟨_, rfl⟩
  rw [← hC]
  have Iv := Lib.hid (fun (k : Nat) (hk : k < 256) (w : World) => indexV hC hl hk w)
  have E1 : ∀ a, Op.box 50 a = Op.box t a := by rw [ht]; exact fun _ => rfl
  have E2 : ∀ a, Op.load 50 a = Op.load t a := by rw [ht]; exact fun _ => rfl
  have E3 : ∀ a b, Op.index 50 a b = Op.index t a b := by rw [ht]; exact fun _ _ => rfl
  rw [← ht] at Iv
  have ld : (loadCellsFrom ⟨w.heap.size, 0, none⟩ 0 N #[]).run Try.prog (w.alloc (.cells C t)) = .ok C (w.alloc (.cells C t)) := load_blk (by rw [hC, ints_size, hl, hN]) (Blk.new _ _ _)
  have HB := Lib.hid (show Below w.heap.size w (w.alloc (.cells C t)) from (Below.refl _ _).alloc (Nat.le_refl _) _)
  have Cx := Lib.hid (fun (W : World) (hb : Below (w.alloc (.cells C t)).heap.size (w.alloc (.cells C t)) W) (k : Nat) (hk : k < 256) => show W.cell? ⟨w.heap.size, k, none⟩ = some (.int .i64 (cl.getD k 0)) from by
    rw [hb.cell (p := ⟨w.heap.size, k, none⟩) (by simp), cell_fresh rfl, hC, ints_at (by omega)])
  have hs : (w.alloc (.cells C t)).heap.size = w.heap.size + 1 := World.size_alloc _ _
  obtain ⟨i0, hi0, hz0, hs0, hb0⟩ := int_row
  clear ht hix hC hN
  go_enter Try.func42, Try.ntmps42
  simp only [E1, E2, E3]
  clear E1 E2 E3
  go_wp2_with fail
  generalize w.alloc (.cells C t) = W at *
  generalize hg : w.heap.size = g at *
  go_loopw [3, 4, 5, 7] (fun vl _ _ vi wr => ∃ (k : Nat) (A : Option Addr) (n cap : Nat), k ≤ 256 ∧ vi = .int .i64 k ∧ vl = .slice A n cap ∧ n = (occK cl k).length ∧ wr.ownsRow W.heap.size 3 1 (.slice A n cap) n ((occK cl k).map encF) ∧ Below W.heap.size W wr ∧ (n = 0 → A = none ∧ cap = 0)) (fun _ _ _ vi _ => 256 - (intOf vi).toNat)
  case atStart => exact ⟨0, none, 0, 0, by omega, rfl, rfl, rfl, World.ownsRow_nil _ _ _ _, Below.refl _ _, fun _ => ⟨rfl, rfl⟩⟩
  case round =>
    obtain ⟨k, A, n, cap, hk, rfl, rfl, hn, hown, hbel, hnil⟩ := hrel
    have Hnil := Lib.hid hnil
    clear hnil
    have Hn := Lib.hid hn
    have Hown := Lib.hid hown
    have Hbel := Lib.hid hbel
    have hnk : n ≤ k := by rw [hn]; exact occK_len cl k
    clear hn hown hbel ld
    by_cases hlt : k < 256
    · have q0 : decide ((k : Int) < 256) = true := by rw [decide_eq_true_eq]; omega
      have q0' : decide (k < 256) = true := by rw [decide_eq_true_eq]; omega
      have ix := Iv.out k hlt wr
      have Nx := Lib.hid (occK_next cl hlt)
      generalize cl.getD k 0 = x at *
      by_cases hx : 0 < x
      · have q1 : decide (0 < x) = true := decide_eq_true hx
        have Nx2 := Nx.out
        rw [if_pos hx] at Nx2
        have HNx := Lib.hid Nx2
        clear Nx2 Nx
        have hal := Hown.out.alloc (.cells #[.int .i64 (k : Int)] 3)
        have hbal := Hbel.out.alloc Hbel.out.size (.cells #[.int .i64 (k : Int)] 3)
        have hsl : Sl (wr.alloc (.cells #[.int .i64 (k : Int)] 3)) (wr.alloc (.cells #[.int .i64 (k : Int)] 3)).heap.size (some ⟨wr.heap.size, 0, none⟩) [.int .i64 (k : Int)] :=
          .inr ⟨wr.heap.size, 0, rfl, by rw [World.size_alloc]; omega, fun i hi => by
            have : i = 0 := by simpa using hi
            subst this; rw [cell_fresh rfl]; rfl⟩
        have Hal := Lib.hid hal
        have Hbal := Lib.hid hbal
        have Hsl := Lib.hid hsl
        clear hal hbal hsl
        go_wp2_with (at_builtin; refine wpList_append_sl (base := W.heap.size) _ rfl (.tmp 13) (.tmp 15) _ rfl Try.underlying74 hi0 hz0 hs0 hb0 rfl rfl Hal.out rfl rfl (by simp) Hsl.out (by simp [Value.oneCell']) (by simp) (by unfold maxLen; simp; omega) (by simp; omega) Hbal.out.size ?_; intro v2 w2 hown2 hgr hbl)
        obtain ⟨A2, c2, rfl⟩ := own_slice hown2
        have Ho2 := Lib.hid hown2
        have Hb2 := Lib.hid (show Below W.heap.size W w2 from Hbal.out.grown hgr Hbal.out.size (fun g hg => (Hown.out.lt g hg).1))
        clear hown2 hgr hbl
        go_wp2_with fail
        go_roundw
        case rel =>
          refine ⟨k + 1, A2, n + 1, c2, by omega, by go_num, rfl, by rw [HNx.out, List.length_append, ← Hn.out]; rfl, ?_, Hb2.out, fun h => by omega⟩
          rw [HNx.out, List.map_append]
          exact Ho2.out
        case measure => simp [intOf]; omega
      · have q1 : decide (0 < x) = false := decide_eq_false hx
        have Nx2 := Nx.out
        rw [if_neg hx] at Nx2
        have HNx := Lib.hid Nx2
        clear Nx2 Nx
        go_wp2_with fail
        go_roundw
        case rel => exact ⟨k + 1, A, n, cap, by omega, by go_num, rfl, by rw [HNx.out]; exact Hn.out, by rw [HNx.out]; exact Hown.out, Hbel.out, Hnil.out⟩
        case measure => simp [intOf]; omega
    · obtain rfl : k = 256 := by omega
      have q0 : decide ((256 : Int) < 256) = false := by decide
      have hmf : ∀ (fn : Fn) (first cap : Array Value) (w : World), (Instr.makeFunc fn first cap).run Try.prog w = .ok (.func fn first cap) w := fun _ _ _ _ => rfl
      rw [occK_all] at Hn Hown
      rcases Nat.eq_zero_or_pos n with h0 | h0
      · obtain ⟨rfl, rfl⟩ := Hnil.out h0
        subst h0
        have S := Lib.hid (fun fv => sort_none fv wr)
        have He := Lib.hid (show occ cl = [] from List.eq_nil_of_length_eq_zero Hn.out.symm)
        clear hlt
        go_wp2_with (first | (go_at_call 52; refine (S.out _).mono ?_; rintro e w' ⟨rfl, hw'⟩; subst w'))
        go_ret
        exact ⟨none, 0, 0, [], rfl, rfl, by rw [He.out], List.Pairwise.nil, .inl rfl, by rw [hg]; exact HB.out.trans (Hbel.out.mono (by omega))⟩
      · have S := Lib.hid (sort_own (cl := cl) Hown.out h0 hnk (by omega) (occ_up cl) (Cx.out wr Hbel.out))
        clear hlt
        go_wp2_with (first | (go_at_call 52; refine S.out.mono ?_; rintro e w' ⟨rfl, Z, z1, z2, z3, z4⟩))
        go_ret
        refine ⟨A, n, cap, Z, rfl, by rw [z1.length_eq]; exact Hn.out.symm, z1, z2, z3, ?_⟩
        rw [hg]
        exact (HB.out.trans (Hbel.out.mono (by omega))).trans (z4 g (by omega))
end Go.Proofs.Ytnkgcibdibgmjaa
