/- The program's buffer: Trim. -/
import Derived.Test.YtfpkbgbkamjbeaaBfp
namespace Go.Proofs.Ytfpkbgbkamjbeaa
open Go.RowKit Go.Maps

/-- n numbers from a on. -/
def rng (a : Int) : Nat → List Int
  | 0 => []
  | n + 1 => rng a n ++ [a + (n : Int)]
theorem rng_length (a : Int) : ∀ n, (rng a n).length = n
  | 0 => rfl
  | n + 1 => by rw [rng, List.length_append, rng_length a n]; rfl
theorem rng_get (a : Int) : ∀ n i, i < n → (rng a n)[i]? = some (a + (i : Int))
  | n + 1, i, h => by
    rw [rng]
    by_cases e : i < n
    · rw [List.getElem?_append_left (by rw [rng_length]; exact e), rng_get a n i e]
    · obtain rfl : i = n := by omega
      rw [List.getElem?_append_right (by rw [rng_length]; exact Nat.le_refl _), rng_length, Nat.sub_self]
      rfl
theorem rng_drop (a : Int) (n j : Nat) (h : j < n) : (rng a n).drop j = (a + (j : Int)) :: (rng a n).drop (j + 1) := by
  have hl : j < (rng a n).length := by rw [rng_length]; exact h
  rw [List.drop_eq_getElem_cons hl]
  congr 1
  have := rng_get a n j h
  rw [List.getElem?_eq_getElem hl] at this
  injection this

/-- The state and the count behind j trims from a on. -/
def trimS (s : Pend) (a : Int) (j : Nat) : Pend := fun y => if a ≤ y ∧ y < a + (j : Int) then some none else s y
def trimC (s : Pend) (c : Nat) (a : Int) : Nat → Nat
  | 0 => c
  | j + 1 => trimC s c a j + if (s (a + (j : Int))).isSome then 0 else 1
theorem trimC_le (s : Pend) (c : Nat) (a : Int) (j : Nat) : ∀ m, trimC s c a j ≤ trimC s c a (j + m)
  | 0 => Nat.le_refl _
  | m + 1 => Nat.le_trans (trimC_le s c a j m) (Nat.le_add_right _ _)
theorem trimC_up (s : Pend) (c : Nat) (a : Int) : ∀ m, trimC s c a m ≤ c + m
  | 0 => Nat.le_refl _
  | m + 1 => by have := trimC_up s c a m; rw [trimC]; split <;> omega
theorem trimS_zero (s : Pend) (a : Int) : trimS s a 0 = s := by
  funext y
  unfold trimS
  rw [if_neg (by omega)]
theorem trimS_step (s : Pend) (a : Int) (j : Nat) : setP (trimS s a j) (a + (j : Int)) none = trimS s a (j + 1) := by
  funext y
  unfold setP trimS
  by_cases e : y = a + (j : Int)
  · rw [if_pos e, if_pos (by omega)]
  · rw [if_neg e]
    by_cases h : a ≤ y ∧ y < a + (j : Int)
    · rw [if_pos h, if_pos (by omega)]
    · rw [if_neg h, if_neg (by omega)]
theorem trimC_step (s : Pend) (c : Nat) (a : Int) (j : Nat) : more (trimS s a j) (trimC s c a j) (a + (j : Int)) = trimC s c a (j + 1) := by
  unfold more
  have : trimS s a j (a + (j : Int)) = s (a + (j : Int)) := by unfold trimS; rw [if_neg (by omega)]
  rw [this, trimC]
  split <;> omega
theorem fit_rng (s : Pend) (n k : Nat) (a : Int) (N : Nat) : ∀ d j, j + d = N → ∀ (f : Int → Bool) (c : Nat), (∀ y, f y = true → y < a + (j : Int)) → n + c = trimC s n a j → trimC s n a j ≤ k → fitGo s n k ((rng a N).drop j) f c = decide (trimC s n a N ≤ k)
  | 0, j, hd, f, c, hf, hc, hk => by
    obtain rfl : j = N := by omega
    rw [List.drop_eq_nil_of_le (by rw [rng_length]; exact Nat.le_refl _), fitGo, decide_eq_true hk]
  | d + 1, j, hd, f, c, hf, hc, hk => by
    rw [rng_drop a N j (by omega), fitGo]
    have hfa : f (a + (j : Int)) = false := by
      cases h : f (a + (j : Int))
      · rfl
      · have := hf _ h; omega
    cases hs : (s (a + (j : Int))).isSome with
    | true =>
      have h1 : trimC s n a (j + 1) = trimC s n a j := by rw [trimC, hs]; rfl
      rw [if_pos rfl, fit_rng s n k a N d (j + 1) (by omega) f c (fun y hy => by have := hf y hy; omega) (by rw [h1]; exact hc) (by rw [h1]; exact hk)]
    | false =>
      have h1 : trimC s n a (j + 1) = trimC s n a j + 1 := by rw [trimC, hs]; rfl
      simp only [hfa, Bool.false_eq_true, if_false]
      by_cases hlt : k < n + (c + 1)
      · rw [if_pos hlt, decide_eq_false]
        have h2 := trimC_le s n a (j + 1) d
        rw [show j + 1 + d = N by omega, h1] at h2
        omega
      · rw [if_neg hlt, fit_rng s n k a N d (j + 1) (by omega) _ (c + 1) (fun y hy => by
          rcases Bool.or_eq_true _ _ ▸ hy with h3 | h3
          · have := of_decide_eq_true h3; omega
          · have := hf y h3; omega) (by rw [h1]; omega) (by rw [h1]; omega)]
theorem fit_all (s : Pend) (n k : Nat) (a : Int) (N : Nat) (h : n ≤ k) : fitGo s n k (rng a N) (fun _ => false) 0 = decide (trimC s n a N ≤ k) := by
  have := fit_rng s n k a N N 0 (Nat.zero_add _) (fun _ => false) 0 (fun _ h => by cases h) rfl h
  rwa [List.drop_zero] at this

theorem int_info : (Try.prog.info? 3).map (fun i => (i.zero, i.size, i.bytes)) = some (some (.int .i64 0), 1, 8) := by kernel_rfl
theorem make_ints (n : Nat) (hn : n ≤ 17592186044416) (w : World) :
    (Instr.makeSlice 39 (.int .i64 (n : Int)) (.int .i64 (n : Int))).run Try.prog w = .ok (.slice (some ⟨w.heap.size, 0, none⟩) n n) (w.alloc (.cells (madeCells #[.int .i64 0] n) 3)) :=
  run_make_row' _ _ _ 8 Try.underlying39 int_info rfl .i64 .i64 n (by omega) (by omega) w
/-- A row that is filled up to j. -/
def filled (a : Int) (n j : Nat) : List Int := rng a j ++ List.replicate (n - j) 0
theorem filled_zero (a : Int) (n : Nat) : madeCells #[.int .i64 0] n = (ints (filled a n 0)).toArray := by
  apply Array.toList_inj.1
  rw [toList_madeCells_one, filled, rng, List.nil_append, Nat.sub_zero, ints, List.map_replicate]
theorem filled_len (a : Int) (n j : Nat) (h : j ≤ n) : (filled a n j).length = n := by
  rw [filled, List.length_append, rng_length, List.length_replicate]; omega
theorem filled_set (a : Int) (n j : Nat) (h : j < n) : (ints (filled a n j)).toArray.setIfInBounds j (.int .i64 (a + (j : Int))) = (ints (filled a n (j + 1))).toArray := by
  have : (filled a n j).set j (a + (j : Int)) = filled a n (j + 1) := by
    unfold filled
    obtain ⟨d, rfl⟩ : ∃ d, n = j + 1 + d := ⟨n - (j + 1), by omega⟩
    rw [show j + 1 + d - j = d + 1 by omega, show j + 1 + d - (j + 1) = d by omega, List.replicate_succ, List.set_append_right _ _ (by rw [rng_length]; exact Nat.le_refl _), rng_length, Nat.sub_self, rng, List.append_assoc]
    rfl
  rw [← this, ints, ints, List.map_set, List.setIfInBounds_toArray]
theorem filled_all (a : Int) (n : Nat) : filled a n n = rng a n := by rw [filled, Nat.sub_self]; simp

/-- May n trims from a on be put? -/
def trimOk (s : Pend) (c k : Nat) (a n : Int) : Bool := 0 ≤ n ∧ 0 ≤ a ∧ a + n ≤ 512 ∧ trimC s c a n.toNat ≤ k

set_option maxHeartbeats 4000000 in
theorem btrim_no {w : World} {g : Nat} {X : Nat → Prop} {k c : Nat} {s : Pend} (h : BufR w g X k c s) {a n : Int} (ha : (Lit.int .i64 a).wf = true) (hn : (Lit.int .i64 n).wf = true) (hbad : n < 0 ∨ a < 0 ∨ 512 < a + n) :
    Calls Try.prog 8 #[.pointer (some ⟨g, 0, none⟩), .int .i64 a, .int .i64 n] w fun e w' => e = .returned (.bool false) ∧ w' = w := by
  have ha := wf_int64 ha
  have hn := wf_int64 hn
  clear h
  by_cases h1 : n < 0
  · have z1 : decide (n < 0) = true := decide_eq_true h1
    clear hbad ha hn
    go_enter Try.func8, Try.ntmps8
    go_wp2_with fail
    go_ret
    exact ⟨rfl, rfl⟩
  · have z1 : decide (n < 0) = false := decide_eq_false h1
    by_cases h2 : a < 0
    · have z2 : decide (a < 0) = true := decide_eq_true h2
      clear hbad ha hn
      go_enter Try.func8, Try.ntmps8
      go_wp2_with fail
      go_ret
      exact ⟨rfl, rfl⟩
    · have z2 : decide (a < 0) = false := decide_eq_false h2
      have hw : IntKind.i64.wrap (512 - a) = 512 - a := by rw [IntKind.wrap_i64]; omega
      obtain ⟨r, hr⟩ : ∃ r, r = 512 - a := ⟨_, rfl⟩
      rw [← hr] at hw
      have z3 : decide (r < n) = true := decide_eq_true (by omega)
      have hw' : IntKind.i64.wrap (512 - a) = r := by rw [hr]; rw [IntKind.wrap_i64]; omega
      clear hbad ha hn hr hw
      go_enter Try.func8, Try.ntmps8
      go_wp2_with fail
      go_ret
      exact ⟨rfl, rfl⟩

set_option maxHeartbeats 8000000 in
theorem btrim_yes {w : World} {g : Nat} {X : Nat → Prop} {k c : Nat} {s : Pend} (h : BufR w g X k c s) {a N : Nat} (haN : a + N ≤ 512) :
    Calls Try.prog 8 #[.pointer (some ⟨g, 0, none⟩), .int .i64 (a : Int), .int .i64 (N : Int)] w fun e w' => e = .returned (.bool (decide (trimC s c a N ≤ k))) ∧
      (¬ trimC s c a N ≤ k → Below w.heap.size w w') ∧ (trimC s c a N ≤ k → BufR w' g X k (trimC s c a N) (trimS s a N) ∧ Chg X w w') := by
  have H := Lib.hid h
  obtain ⟨L, hL⟩ : ∃ L, L = w.heap.size := ⟨_, rfl⟩
  have HL := Lib.hid hL
  have hLw : w.heap.size = L := hL.symm
  have hmk := make_ints N (by omega)
  have hw : IntKind.i64.wrap (512 - (a : Int)) = ((512 - a : Nat) : Int) := by rw [IntKind.wrap_i64]; omega
  obtain ⟨r, hr⟩ : ∃ r, r = 512 - a := ⟨_, rfl⟩
  rw [← hr] at hw
  have z1 : decide ((N : Int) < 0) = false := decide_eq_false (by omega)
  have z2 : decide ((a : Int) < 0) = false := decide_eq_false (by omega)
  have z3 : decide ((r : Int) < (N : Int)) = false := decide_eq_false (by omega)
  have z3' : decide (r < N) = false := decide_eq_false (by omega)
  obtain ⟨w0, hw0⟩ : ∃ w0, w.alloc (.cells (madeCells #[.int .i64 0] N) 3) = w0 := ⟨_, rfl⟩
  have hB0 := Blk.new w 3 (madeCells #[.int .i64 0] N)
  have hb0 : Below w.heap.size w (w.alloc (.cells (madeCells #[.int .i64 0] N) 3)) := (Below.refl _ _).alloc (Nat.le_refl _) _
  rw [hw0, hLw, filled_zero (a : Int) N] at hB0
  rw [hw0, hLw] at hb0
  have B0 := Lib.hid hB0
  have C0 := Lib.hid hb0
  have HaN := Lib.hid haN
  rw [hLw]
  obtain ⟨ok, hok⟩ : ∃ ok, ok = decide (trimC s c a N ≤ k) := ⟨_, rfl⟩
  have HOK := Lib.hid hok
  rw [← hok]
  clear h hL hr hB0 hb0 hok
  go_enter Try.func8, Try.ntmps8
  go_wp2_with fail
  go_loopw [27] (fun v wr => ∃ j : Nat, v = .int .i64 (j : Int) ∧ j ≤ N ∧ Blk wr L 3 (ints (filled a N j)).toArray ∧ Below L w wr) (fun v _ => N - (intOf v).toNat)
  case atStart => exact ⟨0, rfl, Nat.zero_le _, B0.out, C0.out⟩
  case round =>
    obtain ⟨j, rfl, hj, hB, hb⟩ := hrel
    by_cases hjN : j < N
    · have z0 : decide ((j : Int) < (N : Int)) = true := by rw [decide_eq_true_eq]; omega
      have z0' : decide (j < N) = true := by rw [decide_eq_true_eq]; exact hjN
      have hlt : j < (ints (filled a N j)).toArray.size := by simp [ints, filled_len a N j hj]; exact hjN
      have c0 : wr.cell? ⟨L, j, none⟩ = some (ints (filled a N j)).toArray[j] := by rw [hB.cell j, Array.getElem?_eq_getElem hlt]
      generalize (ints (filled a N j)).toArray[j] = v0 at c0
      have f0 := hB.frozen j
      have hwa : IntKind.i64.wrap ((a : Int) + (j : Int)) = ((a + j : Nat) : Int) := by have := HaN.out; rw [IntKind.wrap_i64]; omega
      have hset := filled_set a N j hjN
      rw [show (a : Int) + (j : Int) = ((a + j : Nat) : Int) by omega] at hset
      have H1 := Lib.hid (hset ▸ hB.set_ j (.int .i64 ((a + j : Nat) : Int)))
      have H2 := Lib.hid (hb.setCell (p := ⟨L, j, none⟩) (Nat.le_refl _) (.int .i64 ((a + j : Nat) : Int)))
      obtain ⟨aj, haj⟩ : ∃ aj, aj = a + j := ⟨_, rfl⟩
      rw [← haj] at hwa H1 H2
      clear hset hB hb haj hlt
      go_wp2_with fail
      go_roundw
      case rel => exact ⟨j + 1, by go_num, by omega, H1.out, H2.out⟩
      case measure => simp [intOf]; omega
    · have hjq' : j = N := by omega
      have z0 : decide ((j : Int) < (N : Int)) = false := by rw [decide_eq_false_iff_not]; omega
      have z0' : decide (j < N) = false := by rw [decide_eq_false_iff_not]; exact hjN
      rw [hjq', filled_all] at hB
      have hf := bfits_any (H.out.below (HL.out ▸ hb)) (A := some ⟨L, 0, none⟩) (cap := N) (B := wr.heap.size) (l := rng a N) (fun x hx => by
        obtain ⟨i, hi, e⟩ := List.getElem_of_mem hx
        have h3 := rng_get a N i (by rw [rng_length] at hi; exact hi)
        rw [List.getElem?_eq_getElem hi] at h3
        injection h3 with h3
        rw [rng_length] at hi
        have := HaN.out
        simp [Lit.wf, IntKind.min, IntKind.max, IntKind.bits, IntKind.signed]; omega) (.inr ⟨L, 0, rfl, hB.lt, fun i hi => by
        rw [Nat.zero_add, hB.cell i, List.getElem?_toArray, List.getElem?_eq_getElem hi]⟩) (Nat.le_refl _) (by rw [rng_length]; have := HaN.out; omega)
      rw [fit_all s c k a N H.out.le.1, rng_length, ← HOK.out] at hf
      have HF := Lib.hid hf
      have HB := Lib.hid hB
      have Hb := Lib.hid hb
      clear hB hb hf
      cases ok with
      | true =>
        have HO := Lib.hid (of_decide_eq_true HOK.out.symm)
        go_wp2_with fail
        refine HF.out.mono ?_
        rintro e w1 ⟨rfl, hb1⟩
        have Hb1 := Lib.hid (Hb.out.trans (hb1.mono (by rw [HL.out]; exact (HL.out ▸ Hb.out).size)))
        have HB1 := Lib.hid (HB.out.keep (hb1.block L HB.out.lt))
        clear hb1
        go_wp2_with fail
        go_loopw [43] (fun v wr => ∃ j : Nat, v = .int .i64 (j : Int) ∧ j ≤ N ∧ Blk wr L 3 (ints (rng a N)).toArray ∧ BufR wr g X k (trimC s c a j) (trimS s a j) ∧ Chg X w wr) (fun v _ => N - (intOf v).toNat)
        case atStart => exact ⟨0, rfl, Nat.zero_le _, HB1.out, by rw [trimS_zero]; exact H.out.below (HL.out ▸ Hb1.out), Chg.of_below X (HL.out ▸ Hb1.out)⟩
        case round =>
          obtain ⟨i, rfl, hi, hBi, hR, hC⟩ := hrel
          by_cases hiN : i < N
          · have y0 : decide ((i : Int) < (N : Int)) = true := by rw [decide_eq_true_eq]; omega
            have y0' : decide (i < N) = true := by rw [decide_eq_true_eq]; exact hiN
            have hai := HaN.out
            have c0 : wr.cell? ⟨L, i, none⟩ = some (.int .i64 ((a + i : Nat) : Int)) := by
              rw [hBi.cell i, List.getElem?_toArray, ints, List.getElem?_map, rng_get a N i hiN]
              simp
            have hRR := hR
            obtain ⟨_, _, _, m, vals, h3, h4, h5, h6⟩ := hRR
            have c1 : wr.cell? ⟨g, 1, none⟩ = some (.map (some m)) := h4.cell 1
            have hmore := trimC_step s c a i
            have hstep := trimS_step s a i
            have hle := Nat.le_trans (trimC_le s c a (i + 1) (N - (i + 1))) (show trimC s c a (i + 1 + (N - (i + 1))) ≤ k by rw [show i + 1 + (N - (i + 1)) = N by omega]; exact HO.out)
            obtain ⟨w2, hup, hm2, ht2⟩ := h5.put Try.underlying41 (x := ((a + i : Nat) : Int)) (by simp [Lit.wf, IntKind.min, IntKind.max, IntKind.bits, IntKind.signed]; omega) (.slice none 0 0) (by have := trimC_le s c a i (N - i); rw [show i + (N - i) = N by omega] at this; have := HO.out; have := H.out.le; unfold maxLen; omega)
            rw [(h6 _).isSome] at hm2
            rw [show (a : Int) + (i : Int) = ((a + i : Nat) : Int) by omega] at hmore hstep
            obtain ⟨r1, r2, r3⟩ := BufR.store hR (Below.refl _ _) h3 h4 h5 h6 (Y := X) (fun _ h => h) (fun _ h => .inl h) (x := ((a + i : Nat) : Int)) (v := .slice none 0 0) (o := none) (by rw [hmore]; exact hle) hm2 ht2 rfl
            rw [hmore, hstep] at r1
            have R1 := Lib.hid r1
            have R2 := Lib.hid (hC.then_ r2)
            have R3 := Lib.hid (hBi.keep (r2.block L hBi.lt fun hx => by have := H.out.lt L hx; have := HL.out; omega))
            obtain ⟨ai, hai2⟩ : ∃ ai, ai = a + i := ⟨_, rfl⟩
            rw [← hai2] at c0 hup
            clear r1 r2 r3 hR h3 h4 h5 h6 hm2 ht2 hmore hstep hle hBi hC hai hai2
            go_wp2_with fail
            go_roundw
            case rel => exact ⟨i + 1, by go_num, by omega, R3.out, R1.out, R2.out⟩
            case measure => simp [intOf]; omega
          · have hiq : i = N := by omega
            have y0 : decide ((i : Int) < (N : Int)) = false := by rw [decide_eq_false_iff_not]; omega
            have y0' : decide (i < N) = false := by rw [decide_eq_false_iff_not]; exact hiN
            rw [hiq] at hR
            have R1 := Lib.hid hR
            have R2 := Lib.hid hC
            clear hR hC hBi
            go_wp2_with fail
            go_returns
            exact ⟨rfl, fun h => absurd HO.out h, fun _ => ⟨R1.out, R2.out⟩⟩
      | false =>
        have HO := Lib.hid (of_decide_eq_false HOK.out.symm)
        go_wp2_with fail
        refine HF.out.mono ?_
        rintro e w1 ⟨rfl, hb1⟩
        have Hb1 := Lib.hid (Hb.out.trans (hb1.mono (by rw [HL.out]; exact (HL.out ▸ Hb.out).size)))
        clear hb1
        go_wp2_with fail
        go_returns
        exact ⟨rfl, fun _ => Hb1.out, fun h => absurd h HO.out⟩
end Go.Proofs.Ytfpkbgbkamjbeaa
