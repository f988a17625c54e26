/- The program's buffer: List, where nothing is pending. -/
import Derived.Test.YtfpkbgbkamjbeaaBfi
import Derived.Shelf.SlIterI.Collect
namespace Go.Proofs.Ytfpkbgbkamjbeaa
open Go.RowKit Go.Maps Go.Shelf Go.Sort

/-- The library's maps.Keys, slices.Collect, as this program has them. -/
def kLay_ren : Go.Shelf.Ren := ⟨fun | 7 => 17 | 10 => 20 | 8 => 18 | 11 => 21 | n => n, fun | 0 => 0 | 3 => 30 | 4 => 4 | 23 => 41 | 24 => 39 | 26 => 3 | 27 => 46 | 28 => 47 | 33 => 54 | n => n, fun | n => n⟩
theorem kLay : SlLaysZI.n7 Try.prog kLay_ren := {
  mixed := by kernel_rfl
  f7 := ⟨Try.f17.name, by decide, Try.func17.trans (congrArg some (by kernel_rfl))⟩
  f10 := ⟨Try.f20.name, by decide, Try.func20.trans (congrArg some (by kernel_rfl))⟩
  t0 := Try.underlying0
  a0 := Try.isAgg0
  z0 := Try.sizeOf0
  v0 := Try.zeroValue0
  t4 := Try.underlying4
  a4 := Try.isAgg4
  z4 := Try.sizeOf4
  v4 := Try.zeroValue4
  t23 := Try.underlying41
  a23 := Try.isAgg41
  z23 := Try.sizeOf41
  v23 := Try.zeroValue41
  t26 := Try.underlying3
  a26 := Try.isAgg3
  z26 := Try.sizeOf3
  v26 := Try.zeroValue3
  t27 := Try.underlying46
  a27 := Try.isAgg46
  z27 := Try.sizeOf46
  v27 := Try.zeroValue46
  t28 := Try.underlying47
  a28 := Try.isAgg47
  z28 := Try.sizeOf47
  v28 := Try.zeroValue47
  t33 := Try.underlying54
  a33 := Try.isAgg54
  z33 := Try.sizeOf54
  v33 := Try.zeroValue54 }
theorem cLay : SlLaysZI.n8 Try.prog kLay_ren := {
  mixed := by kernel_rfl
  f8 := ⟨Try.f18.name, by decide, Try.func18.trans (congrArg some (by kernel_rfl))⟩
  f11 := ⟨Try.f21.name, by decide, Try.func21.trans (congrArg some (by kernel_rfl))⟩
  t0 := Try.underlying0
  a0 := Try.isAgg0
  z0 := Try.sizeOf0
  v0 := Try.zeroValue0
  t24 := Try.underlying39
  a24 := Try.isAgg39
  z24 := Try.sizeOf39
  v24 := Try.zeroValue39
  t26 := Try.underlying3
  a26 := Try.isAgg3
  z26 := Try.sizeOf3
  v26 := Try.zeroValue3
  t28 := Try.underlying47
  a28 := Try.isAgg47
  z28 := Try.sizeOf47
  v28 := Try.zeroValue47
  i26 := int_info }

set_option maxRecDepth 100000 in
theorem len64_zero (w : World) : Calls Try.prog 34 #[.int .u64 0] w fun e w' => e = .returned (.int .i64 0) ∧ w' = w := by
  go_enter Try.func34, Try.ntmps34
  go_wp2_with fail
  go_ret
  refine ⟨?_, rfl⟩
  kernel_rfl
theorem len_zero (w : World) : Calls Try.prog 23 #[.int .u64 0] w fun e w' => e = .returned (.int .i64 0) ∧ w' = w := by
  have H := Lib.hid (len64_zero w)
  go_enter Try.func23, Try.ntmps23
  go_wp2_with fail
  refine H.out.mono ?_
  rintro e w1 ⟨rfl, rfl⟩
  go_wp2_with fail
  go_ret
  exact ⟨rfl, rfl⟩
theorem insertion_nil (w : World) : Calls Try.prog 24 #[.slice none 0 0, .int .i64 0, .int .i64 0] w fun e w' => (∃ v, e = .returned v) ∧ w' = w := by
  go_enter Try.func24, Try.ntmps24
  go_wp2_with fail
  refine wp_loop_rounds 1 ?_
  rw [rounds_succ]
  go_wp2_with fail
  refine bodyPost_end (results_none rfl _ _ _) rfl ?_
  exact ⟨⟨_, rfl⟩, rfl⟩
theorem pdq_nil (w : World) : Calls Try.prog 22 #[.slice none 0 0, .int .i64 0, .int .i64 0, .int .i64 0] w fun e w' => (∃ v, e = .returned v) ∧ w' = w := by
  have H := Lib.hid (insertion_nil w)
  go_enter Try.func22, Try.ntmps22
  go_wp2_with fail
  refine wp_loop_rounds 1 ?_
  rw [rounds_succ]
  go_wp2_with fail
  refine H.out.mono ?_
  rintro e w1 ⟨⟨v, rfl⟩, rfl⟩
  go_wp2_with fail
  refine bodyPost_ret (results_none rfl _ _ _) rfl ?_
  exact ⟨⟨_, rfl⟩, rfl⟩
theorem sort_nil (w : World) : Calls Try.prog 19 #[.slice none 0 0] w fun e w' => (∃ v, e = .returned v) ∧ Below w.heap.size w w' := by
  have H := Lib.hid (len_zero w)
  have H2 := Lib.hid (pdq_nil w)
  go_enter Try.func19, Try.ntmps19
  go_wp2_with fail
  refine H.out.mono ?_
  rintro e w1 ⟨rfl, rfl⟩
  go_wp2_with fail
  refine H2.out.mono ?_
  rintro e w1 ⟨⟨v, rfl⟩, rfl⟩
  go_wp2_with fail
  refine bodyPost_end (results_none rfl _ _ _) rfl ?_
  exact ⟨⟨_, rfl⟩, Below.refl _ _⟩
set_option maxHeartbeats 1000000 in
theorem keys_none {w : World} {m n : Nat} {f : Int → Option Value} (_h : MapI w m n f) :
    Calls Try.prog 17 #[.map (some m)] w fun e w' => e = .returned (.func (.func 20) #[] #[.pointer (some ⟨w.heap.size, 0, none⟩)]) ∧ w' = w.alloc (.cells #[.map (some m)] 41) :=
  (callsIn_wide (n := 6)).1 (AnyZI.keys_in kLay Fence.wide 6 trivial rfl (some m) w)
theorem seq_none {w : World} {m n : Nat} {f : Int → Option Value} (h : MapI w m n f) (hn : n = 0) :
    SeqGives Fence.wide 2 Try.prog 20 #[.pointer (some ⟨w.heap.size, 0, none⟩)] encZ (fun ss : List Int => ss = []) 0 (w.alloc (.cells #[.map (some m)] 41)) := by
  obtain ⟨D, h1, h2, _⟩ := h
  have hbl := h1.lt
  have := AnyZI.keys_gives (ρ := kLay_ren) { kLay with } Fence.wide 2 trivial rfl (by omega) w.heap.size m n D (R := hv) (w.alloc (.cells #[.map (some m)] 41)) (by simp) (by simp) (by
    obtain ⟨es, clock, hb, Ft, hs, hD⟩ := h1
    exact ⟨es, clock, (Below.heap_alloc _ _ m hbl).trans hb, Ft, hs, hD⟩)
  rw [h2, hn] at this
  have e : ∀ ss : List Int, ss.Perm (intKeys D) → ss = [] := fun ss hp => by
    obtain ⟨es, hes⟩ := h1.isMap
    subst hes
    have hl : es.length = 0 := by rw [← hn, ← h2]; rfl
    have : es = [] := List.eq_nil_of_length_eq_zero hl
    subst this
    exact List.perm_nil.1 hp
  intro l J W hW hJ hY h0
  refine (this l J W hW hJ hY h0).mono ?_
  rintro e' W' ⟨hv, xs, hp, hj⟩
  exact ⟨hv, xs, e xs hp, hj⟩
theorem sorted_none {w W : World} {m n : Nat} {f : Int → Option Value} (h : MapI w m n f) (hn : n = 0) (hW : W = w.alloc (.cells #[.map (some m)] 41)) :
    Calls Try.prog 16 #[.func (.func 20) #[] #[.pointer (some ⟨w.heap.size, 0, none⟩)]] W fun e w' => e = .returned (.slice none 0 0) ∧ Below W.heap.size W w' := by
  have hs := seq_none h hn
  rw [← hW] at hs
  have C0 := (callsIn_wide (n := 4)).1 (AnyZI.collect_in cLay Fence.wide 4 trivial trivial rfl (by omega) 20 #[.pointer (some ⟨w.heap.size, 0, none⟩)] trivial (enters_of Try.func20 (by kernel_rfl) rfl) (fun ss : List Int => ss = []) 0 (Nat.zero_le _) (by omega) W hs)
  have C1 : Calls Try.prog 18 #[.func (.func 20) #[] #[.pointer (some ⟨w.heap.size, 0, none⟩)]] W fun e w' => e = .returned (.slice none 0 0) ∧ Below W.heap.size W w' := by
    refine Calls.mono C0 ?_
    rintro e w' ⟨v, ss, rfl, rfl, _, hv, hb⟩
    exact ⟨by rw [hv.2 rfl], hb⟩
  have HC := Lib.hid C1
  have HS := Lib.hid (fun w => sort_nil w)
  clear hs C0 C1 h hW
  go_enter Try.func16, Try.ntmps16
  go_wp2_with fail
  refine HC.out.mono ?_
  rintro e w1 ⟨rfl, hb1⟩
  have B1 := Lib.hid hb1
  clear hb1
  go_wp2_with fail
  refine (HS.out w1).mono ?_
  rintro e w2 ⟨⟨v, rfl⟩, hb2⟩
  have B2 := Lib.hid (B1.out.trans (hb2.mono B1.out.size))
  clear hb2
  go_wp2_with fail
  go_ret
  exact ⟨rfl, B2.out⟩

set_option maxHeartbeats 1000000 in
theorem blist_none {w : World} {g : Nat} {X : Nat → Prop} {k n : Nat} {s : Pend} (h : BufR w g X k n s) (hn : n = 0) : Calls Try.prog 13 #[.pointer (some ⟨g, 0, none⟩)] w fun e w' => e = .returned (.slice none 0 0) ∧ Below w.heap.size w w' := by
  obtain ⟨h1, h2, _, m, vals, h3, h4, h5, h6⟩ := h
  have c1 : w.cell? ⟨g, 1, none⟩ = some (.map (some m)) := h4.cell 1
  have HK := Lib.hid (keys_none h5)
  have HS := Lib.hid (sorted_none h5 hn rfl)
  clear h4 h5 h6 h1
  go_enter Try.func13, Try.ntmps13
  go_wp2_with fail
  refine HK.out.mono ?_
  rintro e w1 ⟨rfl, rfl⟩
  go_wp2_with fail
  refine HS.out.mono ?_
  rintro e w2 ⟨rfl, hb2⟩
  have B2 := Lib.hid (((Go.RowKit.Below.refl w.heap.size w).alloc (Nat.le_refl _) (.cells #[.map (some m)] 41)).trans (hb2.mono (by simp)))
  clear hb2
  go_wp2_with fail
  refine wp_loop_rounds 1 ?_
  rw [rounds_succ]
  go_wp2_with fail
  go_returns
  exact ⟨rfl, B2.out⟩
end Go.Proofs.Ytfpkbgbkamjbeaa
