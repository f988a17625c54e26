/- LzCopies, under what the program's functions are held to. -/
import Derived.Test.YtpfhkbagapodoaaLzc
namespace Go.Proofs.Ytpfhkbagapodoaa
open Go.RowKit

/-- One sequence and nothing behind it, at any length asked. -/
theorem unpack_one (h : List Nat) (d k : Nat) (n : Nat) (hn : n ≤ 4096) :
    Lz.unpack (Lz.enc [⟨h, d, k⟩] []) n = if n < h.length then ([], 3) else if d = 0 ∨ h.length < d then ([], 4) else if n < h.length + (k + 4) then ([], 3) else if h.length + (k + 4) < n then ([], 2) else (Lz.copyB h d (k + 4), 0) := by
  unfold Lz.unpack
  rw [if_neg (by omega), Int.toNat_natCast]
  have n15 : Lz.nib k < 16 := by unfold Lz.nib; omega
  have e1 : (Lz.nib h.length * 16 + Lz.nib k) / 16 = Lz.nib h.length := by omega
  have e2 : (Lz.nib h.length * 16 + Lz.nib k) % 16 = Lz.nib k := by omega
  have e3 : d % 256 + d / 256 * 256 = d := by omega
  have eE : Lz.enc [⟨h, d, k⟩] [] = (Lz.nib h.length * 16 + Lz.nib k) :: (Lz.ext h.length ++ (h ++ (d % 256 :: d / 256 :: (Lz.ext k ++ [0])))) := by
    unfold Lz.enc Lz.enc Lz.Seq.enc Lz.encLast
    simp [Lz.ext, Lz.nib]
  rw [eE, List.length_cons, Lz.unp_more (lits := h.length) (q := h ++ (d % 256 :: d / 256 :: (Lz.ext k ++ [0]))) (many := k) (q2 := [0]) (by rw [e1]; exact Lz.added_ext _ _) (by simp) (by
    rw [e2, ← List.drop_drop, List.drop_left]
    exact Lz.added_ext _ _)]
  have g0 : (h ++ (d % 256 :: d / 256 :: (Lz.ext k ++ [0]))).getD h.length 0 = d % 256 := by
    have := getD_at (a := h) (b := d % 256 :: d / 256 :: (Lz.ext k ++ [0])) (k := 0)
    rw [Nat.add_zero] at this
    rw [this]; rfl
  have g1 : (h ++ (d % 256 :: d / 256 :: (Lz.ext k ++ [0]))).getD (h.length + 1) 0 = d / 256 := by
    rw [getD_at]; rfl
  rw [g0, g1, e3, List.take_left]
  simp only [List.length_nil, Nat.sub_zero, Nat.zero_add, List.nil_append]
  by_cases c1 : n < h.length
  · rw [if_pos c1, if_pos c1]
  · rw [if_neg c1, if_neg c1]
    by_cases c2 : d = 0 ∨ h.length < d
    · rw [if_pos c2, if_pos c2]
    · rw [if_neg c2, if_neg c2]
      by_cases c3 : n < h.length + (k + 4)
      · rw [if_pos (by omega), if_pos c3]
      · rw [if_neg (by omega), if_neg c3]
        have hf : ∃ f, (Lz.ext h.length ++ (h ++ (d % 256 :: d / 256 :: (Lz.ext k ++ [0])))).length = f + 1 := ⟨_, (by rw [List.length_append, List.length_append, List.length_cons, List.length_cons, List.length_append, List.length_singleton]; rfl : _ = ((Lz.ext h.length).length + (h.length + ((Lz.ext k).length + 1 + 1))) + 1)⟩
        obtain ⟨f, hf⟩ := hf
        rw [hf, Lz.unp_last (lits := 0) (q := []) (by rfl) rfl, Lz.copyB_len, List.append_nil, Nat.add_zero, if_neg (by omega)]
        rfl

theorem or_low {a b : Nat} (ha : a < 16) (hb : b < 16) : bits BinOp.or IntKind.u8 ((a * 16 : Nat) : Int) (b : Int) = ((a * 16 + b : Nat) : Int) := by
  rw [u8_or_nat _ _ (by omega) (by omega)]
  congr 1
  have := Nat.two_pow_add_eq_or_of_lt (i := 4) (b := b) (by omega) a
  rw [show a * 16 = 2 ^ 4 * a by omega]
  exact this.symm

set_option maxRecDepth 8000 in
set_option maxHeartbeats 8000000 in
theorem lzcopies_any (hU : UnpackC) {P : List Nat → List Nat} (hP : PackC P) (hO : PackOk P) (hM : MostC) {w : World} {A : Option Addr} {c : Nat} {l : List Nat} (hsl : Sl w w.heap.size A (byts l)) (hl : ∀ x ∈ l, x < 256) (hc : l.length ≤ c) (hA : A = none → c = 0) (u v : Nat) (hu : u < 65536) (hv : v < 65536) :
    Calls Try.prog 6 #[.slice A l.length c, .int .u16 (u : Int), .int .u16 (v : Int)] w fun e w' => e = .returned (.bool true) ∧ Below w.heap.size w w' := by
  have AW := Lib.hid (fun w => awake_any hU hP hO hM w)
  by_cases h5 : l.length < 1 ∨ 300 < l.length
  · have early : ∀ x y : Bool, decide ((l.length : Int) < 1) = x → decide (l.length < 1) = x → decide (300 < (l.length : Int)) = y → decide (300 < l.length) = y → (x = true ∨ y = true) →
        Calls Try.prog 6 #[.slice A l.length c, .int .u16 (u : Int), .int .u16 (v : Int)] w fun e w' => e = .returned (.bool true) ∧ Below w.heap.size w w' := by
      intro x y h1 h1' h2 h2' h
      clear hsl hl hc hA h5 hU hP hO hM
      generalize l.length = n at *
      cases x <;> cases y <;> first
        | (simp at h; done)
        | (clear h
           go_enter Try.func6, Try.ntmps6
           go_wp2_with fail
           refine (AW.out _).mono ?_
           rintro e w1 ⟨rfl, hb⟩
           go_wp2_with fail
           go_ret
           exact ⟨rfl, hb⟩)
    refine early _ _ rfl (by rw [decide_eq_decide]; omega) rfl (by rw [decide_eq_decide]; omega) ?_
    rcases h5 with h | h
    · exact .inl (by rw [decide_eq_true_eq]; omega)
    · exact .inr (by rw [decide_eq_true_eq]; omega)
  have q1 : decide ((l.length : Int) < 1) = false := by rw [decide_eq_false_iff_not]; omega
  have q1' : decide (l.length < 1) = false := by rw [decide_eq_false_iff_not]; omega
  have q2 : decide (300 < (l.length : Int)) = false := by rw [decide_eq_false_iff_not]; omega
  have q2' : decide (300 < l.length) = false := by rw [decide_eq_false_iff_not]; omega
  have hby : By w A c l := ⟨hsl, hl, hc, hA, by omega⟩
  have HY := Lib.hid hby
  obtain ⟨i0, hi0, hz0, hs0, hb0⟩ := byte_parts (P := Try.prog) (e := 5) (by kernel_rfl)
  obtain ⟨N, hN⟩ : ∃ N, N = l.length := ⟨_, rfl⟩
  have hN1 : 1 ≤ N := by omega
  have hNb : N ≤ 300 := by omega
  obtain ⟨k, hk, hkb⟩ : ∃ k : Nat, (v : Int) % 600 = k ∧ k ≤ 599 := ⟨v % 600, by omega, by omega⟩
  obtain ⟨n, hn⟩ : ∃ n : Nat, n = 4 + k := ⟨_, rfl⟩
  have hni : (4 : Int) + (k : Int) = (n : Int) := by omega
  have hnk : (n : Int) - 4 = (k : Int) := by omega
  obtain ⟨d, hd, hdb⟩ : ∃ d : Nat, (u : Int) % 400 = d ∧ d ≤ 399 := ⟨u % 400, by omega, by omega⟩
  obtain ⟨d0, hd0, hd0b⟩ : ∃ d0 : Nat, (d : Int) % 256 = d0 ∧ d0 < 256 := ⟨d % 256, by omega, by omega⟩
  obtain ⟨d1, hd1, hd1b⟩ : ∃ d1 : Nat, (d : Int) / 256 = d1 ∧ d1 < 256 := ⟨d / 256, by omega, by omega⟩
  have hd01 : d % 256 = d0 ∧ d / 256 = d1 := ⟨by omega, by omega⟩
  obtain ⟨Z, hZ⟩ : ∃ Z, Z = Lz.enc [⟨l, d, k⟩] [] := ⟨_, rfl⟩
  have hZp : Z = (Lz.nib N * 16 + Lz.nib k) :: (Lz.ext N ++ (l ++ (d0 :: d1 :: (Lz.ext k ++ [0])))) := by
    rw [hZ, ← hd01.1, ← hd01.2, hN]
    unfold Lz.enc Lz.enc Lz.Seq.enc Lz.encLast
    simp [Lz.ext, Lz.nib]
  have hZb : ∀ x ∈ Z, x < 256 := by
    intro x hx
    rw [hZp] at hx
    simp only [List.mem_cons, List.mem_append, List.not_mem_nil, or_false] at hx
    rcases hx with h | h | h | h | h | h | h
    · rw [h]; unfold Lz.nib; omega
    · exact Lz.ext_lt x h
    · exact hl x h
    · omega
    · omega
    · exact Lz.ext_lt x h
    · omega
  have hZl : Z.length ≤ 1000 := by
    rw [hZp]
    simp only [List.length_cons, List.length_append, List.length_nil]
    have c1 := Lz.ext_cost N
    have c2 := Lz.ext_cost k
    omega
  have U1 := unpack_one l d k (N + n) (by omega)
  have U2 := unpack_one l d k (N + n - 1) (by omega)
  have U3 := unpack_one l d k (N + n + 1) (by omega)
  rw [← hZ, ← hN] at U1 U2 U3
  have C1 := Lib.hid (fun W A c (h : By W A c Z) => hU W A c Z ((N + n : Nat) : Int) Z.length h (by omega) rfl)
  have C2 := Lib.hid (fun W A c (h : By W A c Z) => hU W A c Z ((N + n - 1 : Nat) : Int) Z.length h (by omega) rfl)
  have C3 := Lib.hid (fun W A c (h : By W A c Z) => hU W A c Z ((N + n + 1 : Nat) : Int) Z.length h (by omega) rfl)
  have v1 : ((N + n : Nat) : Int) = (N : Int) + (n : Int) := by omega
  have v2 : ((N + n - 1 : Nat) : Int) = (N : Int) + (n : Int) - 1 := by omega
  have v3 : ((N + n + 1 : Nat) : Int) = (N : Int) + (n : Int) + 1 := by omega
  rw [v1] at C1 U1
  rw [v2] at C2 U2
  rw [v3] at C3 U3
  obtain ⟨zl, hzl⟩ : ∃ zl, zl = Z.length := ⟨_, rfl⟩
  rw [← hzl] at C1 C2 C3
  have hnib : Lz.nib N < 16 := by unfold Lz.nib; omega
  have hnibk : Lz.nib k < 16 := by unfold Lz.nib; omega
  have hmin : ∀ (ts : Array TypeId) (t : TypeId) (W : World), (Builtin.min_ ts t #[.int .i64 (k : Int), .int .i64 15]).run Try.prog W = .ok (.int .i64 ((Lz.nib k : Nat) : Int)) W := fun ts t W => by
    rw [run_min_int2, show (if (15 : Int) < (k : Int) then (15 : Int) else (k : Int)) = ((Lz.nib k : Nat) : Int) by unfold Lz.nib; split <;> omega]
  have hor := or_low hnib hnibk
  obtain ⟨T0, hT0⟩ : ∃ T0, T0 = Lz.nib N * 16 := ⟨_, rfl⟩
  obtain ⟨T1, hT1⟩ : ∃ T1, T1 = Lz.nib N * 16 + Lz.nib k := ⟨_, rfl⟩
  rw [← hT1, ← hT0] at hor
  rw [← hT1] at hZp
  have hT0b : T0 < 256 := by omega
  have hT1b : T1 < 256 := by omega
  have hel : Lz.encLast l = T0 :: (Lz.ext N ++ l) := by unfold Lz.encLast; rw [hT0, hN]
  have Cp := Lib.hid (fun W (h : By W A c l) => rplain_by h (by omega) N hN)
  rw [hel] at Cp
  obtain ⟨bl, hbl⟩ : ∃ bl, bl = (T0 :: (Lz.ext N ++ l)).length := ⟨_, rfl⟩
  have hblb : 1 ≤ bl ∧ bl ≤ 1000 := by
    rw [hbl, List.length_cons, List.length_append]
    have c1 := Lz.ext_cost N
    omega
  have Cp' : Hid (∀ W, By W A c l → Calls Try.prog 15 #[.slice A N c] W fun e w' => ∃ A2 c2, e = .returned (.slice A2 bl c2) ∧ Mine W w' A2 bl c2 (T0 :: (Lz.ext N ++ l))) := Lib.hid (fun W h => (Cp.out W h).mono fun e w' ⟨A2, c2, he, _, hw, ho⟩ => ⟨A2, c2, by rw [he, hbl], by rw [hbl]; exact ho, hw⟩)
  have HZp := Lib.hid hZp
  have HZb := Lib.hid hZb
  have Hzl := Lib.hid hzl
  have HZl := Lib.hid hZl
  have HU1 := Lib.hid U1
  have HU2 := Lib.hid U2
  have HU3 := Lib.hid U3
  have HN := Lib.hid hN
  have Hbl := Lib.hid (show bl = 1 + ((Lz.ext N).length + N) by rw [hbl, List.length_cons, List.length_append, hN]; omega)
  have Hzl2 := Lib.hid (show zl = bl + 2 + (Lz.ext k).length + 1 by
    rw [hzl, hZp, Hbl.out]
    simp only [List.length_cons, List.length_append, List.length_nil, hN]
    omega)
  generalize Lz.nib k = nk at *
  rw [← hN]
  rw [← hN] at q1 q1' q2 q2'
  have hnc : (n : Int) % 256 = (n : Int) % 256 := rfl
  clear hnc hU hP hO hM hsl hl hc hA h5 hby hZ hZp hZb hZl U1 U2 U3 hzl hel hbl Cp hN hT0 hT1 hn hd01 v1 v2 v3
  go_enter Try.func6, Try.ntmps6
  go_wp2_with fail
  refine (AW.out _).mono ?_
  rintro e w1 ⟨rfl, hb⟩
  have HB1 := Lib.hid hb
  have HY1 := Lib.hid (HY.out.below hb)
  clear hb HY AW
  go_wp2_with fail
  refine (Cp'.out _ HY1.out).mono ?_
  rintro e w2 ⟨A2, c2, rfl, m2⟩
  obtain ⟨g, rfl, hgB⟩ : ∃ g, A2 = some ⟨g, 0, none⟩ ∧ w1.heap.size ≤ g := by
    rcases m2.own.2 with ⟨_, h0⟩ | ⟨g, cap2, _, hv, hbg, _⟩
    · omega
    · injection hv with hv; exact ⟨g, hv, hbg⟩
  have cc : w2.cell? ⟨g, 0, none⟩ = some (.int .u8 (T0 : Int)) := by
    rw [m2.own.cellAt 0 (by omega)]; rfl
  have fz := m2.own.frozenAt 0
  have st := m2.own.stored 0 (.int .u8 (T1 : Int))
  have M3 := Lib.hid (show Mine w1 (w2.setCell ⟨g, 0, none⟩ (.int .u8 (T1 : Int))) (some ⟨g, 0, none⟩) bl c2 (T1 :: (Lz.ext N ++ l)) from ⟨st.1, m2.bel.grown st.2 m2.bel.size (fun g' hg' => by injection hg' with hg'; omega)⟩)
  obtain ⟨w3, hw3⟩ : ∃ w3, w3 = w2.setCell ⟨g, 0, none⟩ (.int .u8 (T1 : Int)) := ⟨_, rfl⟩
  have e3 : w2.setCell ⟨g, 0, none⟩ (.int .u8 (T1 : Int)) = w3 := hw3.symm
  rw [e3] at M3
  have Mz := Lib.hid (M3.out.below (w' := w3.alloc (.cells #[.int .u8 (d0 : Int), .int .u8 (d1 : Int)] 5)) ((Below.refl _ _).alloc (Nat.le_refl _) _))
  have Sz := Lib.hid (sl_cells (w := w3) (cs := #[.int .u8 (d0 : Int), .int .u8 (d1 : Int)]) (l := [d0, d1]) rfl)
  have HB3 := Lib.hid (HB1.out)
  clear m2 st hw3 M3 Cp'
  by_cases hk15 : k < 15
  · have q3 : decide ((15 : Int) ≤ (k : Int)) = false := by rw [decide_eq_false_iff_not]; omega
    have q3' : decide (15 ≤ k) = false := by rw [decide_eq_false_iff_not]; omega
    have hext : Lz.ext k = [] := by unfold Lz.ext; rw [if_pos hk15]
    have Hzl3 := Lib.hid (show bl + 2 + 1 = zl by rw [Hzl2.out, hext]; rfl)
    have Hext := Lib.hid hext
    clear hext Hzl2
    go_wp2_with (at_builtin; first
      | (refine wpList_append_sl (base := w1.heap.size) _ rfl (.tmp 48) (.tmp 54) _ rfl Try.underlying22 hi0 hz0 hs0 hb0 rfl rfl Mz.out.own rfl (byts_length [d0, d1]).symm (by simp) Sz.out (byts_one _) (by rw [byts_length]; exact Nat.le_refl _) (by rw [byts_length]; unfold maxLen; simp; omega) (by rw [byts_length]; simp; omega) Mz.out.bel.size ?_; intro v6 w6 h1 h2 _; obtain ⟨A6, c6, rfl, m6⟩ := Mz.out.app (r := [d0, d1]) rfl (show bl + 2 = bl + 2 from rfl) h1 h2; have Mz6 := Lib.hid (m6.below (w' := w6.alloc (.cells #[.int .u8 0] 5)) ((Below.refl _ _).alloc (Nat.le_refl _) _)); have Sz6 := Lib.hid (sl_cells (w := w6) (cs := #[.int .u8 0]) (l := [0]) rfl); clear h1 h2 m6)
      | (refine wpList_append_sl (base := w1.heap.size) _ rfl (.tmp 73) (.tmp 74) _ rfl Try.underlying22 hi0 hz0 hs0 hb0 rfl rfl Mz6.out.own rfl (byts_length [0]).symm (by simp) Sz6.out (byts_one _) (by rw [byts_length]; exact Nat.le_refl _) (by rw [byts_length]; unfold maxLen; simp; omega) (by rw [byts_length]; simp; omega) Mz6.out.bel.size ?_; intro v7 w7 h1 h2 _; obtain ⟨A7, c7, rfl, m7⟩ := Mz6.out.app (r := [0]) rfl Hzl3.out h1 h2; have M7 := Lib.hid m7; clear h1 h2 m7))
    have HZe := Lib.hid (show T1 :: (Lz.ext N ++ l) ++ [d0, d1] ++ [0] = Z by rw [HZp.out]; simp [Hext.out])
    have m7z := M7.out
    rw [HZe.out] at m7z
    have Y7 := Lib.hid (By.of_own m7z.own HZb.out (by have := HZl.out; omega))
    have HB7 := Lib.hid (HB1.out.trans (m7z.bel.mono HB1.out.size))
    have HY7 := Lib.hid (HY1.out.below m7z.bel)
    clear m7z M7 HZe
    refine (C1.out _ _ _ Y7.out).mono ?_
    rintro e w8 ⟨A8, c8, rfl, y8, b8⟩
    have HB8 := Lib.hid (HB7.out.trans (b8.mono HB7.out.size))
    have Y78 := Lib.hid (Y7.out.below b8)
    have HY8 := Lib.hid (HY7.out.below b8)
    have D8 := Lib.hid y8
    clear y8 b8 HB7 Y7 HY7 C1
    by_cases hform : d = 0 ∨ N < d
    · have u1 : Lz.unpack Z ((N : Int) + (n : Int)) = ([], 4) := by rw [HU1.out, if_neg (by omega), if_pos hform]
      rw [u1] at D8
      obtain ⟨D2, E2, u2⟩ : ∃ D2 E2, Lz.unpack Z ((N : Int) + (n : Int) - 1) = (D2, E2) := ⟨_, _, rfl⟩
      obtain ⟨D3, E3, u3⟩ : ∃ D3 E3, Lz.unpack Z ((N : Int) + (n : Int) + 1) = (D3, E3) := ⟨_, _, rfl⟩
      rw [u2] at C2
      rw [u3] at C3
      rw [u1]
      have early : ∀ x y : Bool, ((d : Int) == 0) = x → (d == 0) = x → decide ((N : Int) < (d : Int)) = y → decide (N < d) = y → (x = true ∨ y = true) → (x = true ∧ d = 0) ∨ (x = false ∧ y = true) := by
        intro x y h1 h2 h3 h4 h
        cases x
        · exact .inr ⟨rfl, h.resolve_left (by decide)⟩
        · exact .inl ⟨rfl, by simpa using h2⟩
      have hx := early _ _ rfl (by rw [Bool.eq_iff_iff, beq_iff_eq, beq_iff_eq]; omega) rfl (by rw [decide_eq_decide]; omega) (by
        rcases hform with h | h
        · exact .inl (by rw [beq_iff_eq]; omega)
        · exact .inr (by rw [decide_eq_true_eq]; omega))
      clear early hform u1 u2 u3 HU1 HU2 HU3
      simp only at D8 ⊢
      go_wp2_with fail
      refine (C2.out _ _ _ Y78.out).mono ?_
      rintro e w9 ⟨A9, c9, rfl, -, b9⟩
      have HB9 := Lib.hid (HB8.out.trans (b9.mono HB8.out.size))
      have Y9 := Lib.hid (Y78.out.below b9)
      clear b9 HB8 Y78 C2
      simp only
      generalize D2.length = l2 at *
      go_wp2_with fail
      refine (C3.out _ _ _ Y9.out).mono ?_
      rintro e w10 ⟨A10, c10, rfl, -, b10⟩
      have HB10 := Lib.hid (HB9.out.trans (b10.mono HB9.out.size))
      clear b10 HB9 Y9 C3
      simp only
      generalize D3.length = l3 at *
      rcases hx with ⟨hx, hd0⟩ | ⟨hx, hy⟩
      · clear hd0
        have hx' : (d == 0) = true := by rw [beq_iff_eq] at hx ⊢; omega
        go_wp2_with fail
        go_ret
        exact ⟨rfl, HB10.out⟩
      · have hx' : (d == 0) = false := by rw [beq_eq_false_iff_ne] at hx ⊢; omega
        have hy' : decide (N < d) = true := by rw [decide_eq_true_eq] at hy ⊢; omega
        go_wp2_with fail
        go_ret
        exact ⟨rfl, HB10.out⟩
    · have hd1' : 0 < d := by omega
      have hdN : d ≤ N := by omega
      have u1 : Lz.unpack Z ((N : Int) + (n : Int)) = (Lz.copyB l d n, 0) := by rw [HU1.out, if_neg (by omega), if_neg hform, if_neg (by omega), if_neg (by omega), show k + 4 = n by omega]
      have u2 : Lz.unpack Z ((N : Int) + (n : Int) - 1) = ([], 3) := by rw [HU2.out, if_neg (by omega), if_neg hform, if_pos (by omega)]
      have u3 : Lz.unpack Z ((N : Int) + (n : Int) + 1) = ([], 2) := by rw [HU3.out, if_neg (by omega), if_neg hform, if_neg (by omega), if_pos (by omega)]
      rw [u1] at D8
      rw [u2] at C2
      rw [u3] at C3
      rw [u1]
      have q5 : ((d : Int) == 0) = false := by rw [beq_eq_false_iff_ne]; omega
      have q5' : (d == 0) = false := by rw [beq_eq_false_iff_ne]; omega
      have q6 : decide ((N : Int) < (d : Int)) = false := by rw [decide_eq_false_iff_not]; omega
      have q6' : decide (N < d) = false := by rw [decide_eq_false_iff_not]; omega
      have hcl : (Lz.copyB l d n).length = N + n := by rw [Lz.copyB_len, HN.out]
      have Hcl := Lib.hid hcl
      clear hform u1 u2 u3 HU1 HU2 HU3 hcl
      simp only at D8 ⊢
      rw [Hcl.out]
      go_wp2_with fail
      refine (C2.out _ _ _ Y78.out).mono ?_
      rintro e w9 ⟨A9, c9, rfl, -, b9⟩
      have HB9 := Lib.hid (HB8.out.trans (b9.mono HB8.out.size))
      have Y9 := Lib.hid (Y78.out.below b9)
      have HY9 := Lib.hid (HY8.out.below b9)
      have D9 := Lib.hid (D8.out.below b9)
      clear b9 HB8 Y78 HY8 D8 C2
      simp only [List.length_nil]
      go_wp2_with fail
      refine (C3.out _ _ _ Y9.out).mono ?_
      rintro e w10 ⟨A10, c10, rfl, -, b10⟩
      have HB10 := Lib.hid (HB9.out.trans (b10.mono HB9.out.size))
      have HY10 := Lib.hid (HY9.out.below b10)
      have D10 := Lib.hid (D9.out.below b10)
      have M10 := Lib.hid (mine_empty (w0 := w10) (w := w10) (Below.refl _ _))
      have Y10 := Lib.hid (HY10.out.below M10.out.bel)
      have Ll := Lib.hid (show (byts l).length = N by rw [byts_length, HN.out])
      clear b10 HB9 Y9 HY9 D9 C3
      simp only [List.length_nil]
      go_wp2_with (at_builtin; refine wpList_append_sl (base := w10.heap.size) _ rfl (.tmp 120) (.tmp 121) _ rfl Try.underlying22 hi0 hz0 hs0 hb0 rfl rfl M10.out.own rfl Ll.out.symm Y10.out.nil Y10.out.sl (byts_one _) (by rw [Ll.out, HN.out]; exact Y10.out.cap) (by rw [Ll.out]; unfold maxLen; omega) (by rw [Ll.out]; omega) M10.out.bel.size ?_; intro v11 w11 h1 h2 _; obtain ⟨A11, c11, rfl, m11⟩ := M10.out.app (r := l) HN.out.symm (Nat.zero_add N) h1 h2; have M11 := Lib.hid m11; clear h1 h2 m11)
      go_loopw [17, 18] (fun v i wr => ∃ (j : Nat) (A' : Option Addr) (c' : Nat), j ≤ n ∧ i = .int .i64 j ∧ v = .slice A' (N + j) c' ∧ Mine w10 wr A' (N + j) c' (Lz.copyB l d j)) (fun _ i _ => n - (intOf i).toNat)
      case atStart => exact ⟨0, A11, c11, Nat.zero_le _, rfl, rfl, M11.out⟩
      case round =>
        obtain ⟨j, A5, c5, hj, rfl, rfl, hm5⟩ := hrel
        have M5 := Lib.hid hm5
        by_cases hjn : j < n
        · have q9 : decide ((j : Int) < (n : Int)) = true := by rw [decide_eq_true_eq]; omega
          have hlen5 := hm5.len
          obtain ⟨ix, hix⟩ : ∃ ix : Nat, ix = N + j - d := ⟨_, rfl⟩
          have hixi : (N : Int) + (j : Int) - (d : Int) = (ix : Int) := by omega
          have hixb : ix < N + j := by omega
          obtain ⟨b5, o5, rfl, c5x⟩ := sl_cell hm5.sl (k := ix) (by omega)
          have hn5 := Lib.hid (Lz.copyB_next d j l)
          rw [hlen5, ← hix] at hn5
          obtain ⟨X, hX⟩ : ∃ X, X = Lz.copyB l d j := ⟨_, rfl⟩
          rw [← hX] at hn5 M5 c5x
          have HX := Lib.hid hX
          have hy5 := getB_lt (Lz.copyB_lt (back := d) (k := j) HY10.out.lt) ix
          rw [← hX] at hy5
          clear hX hm5 hlen5
          generalize hy : X.getD ix 0 = y at *
          have Mz := Lib.hid (M5.out.below (w' := wr.alloc (.cells #[.int .u8 (y : Int)] 5)) ((Below.refl _ _).alloc (Nat.le_refl _) _))
          have Sz := Lib.hid (sl_cells (w := wr) (cs := #[.int .u8 (y : Int)]) (l := [y]) rfl)
          have Hix := Lib.hid hix
          clear hy M5 hix
          go_wp2_with (at_builtin; refine wpList_append_sl (base := w10.heap.size) _ rfl (.tmp 128) (.tmp 136) _ rfl Try.underlying22 hi0 hz0 hs0 hb0 rfl rfl Mz.out.own rfl (byts_length [y]).symm (by simp) Sz.out (byts_one _) (by rw [byts_length]; exact Nat.le_refl _) (by rw [byts_length]; unfold maxLen; simp; omega) (by rw [byts_length]; simp; omega) Mz.out.bel.size ?_; intro v6 w12 h1 h2 _; obtain ⟨A12, c12, rfl, m12⟩ := Mz.out.app (r := [y]) rfl (show N + j + 1 = N + (j + 1) from rfl) h1 h2; have M12 := Lib.hid m12; clear h1 h2 m12)
          go_roundw
          case rel => exact ⟨j + 1, A12, c12, by omega, by go_num, rfl, by rw [hn5.out]; exact M12.out⟩
          case measure => simp [intOf]; omega
        · have hjn' : j = n := by omega
          subst hjn'
          have q9 : decide ((j : Int) < (j : Int)) = false := by simp
          have k1 := conv_b (cap := c8) (D10.out.below hm5.bel).sl
          have k2 := conv_b (A := A5) (cap := c5) (l := Lz.copyB l d j) hm5.sl
          rw [Hcl.out] at k1 k2
          have HBf := Lib.hid (HB10.out.trans (hm5.bel.mono HB10.out.size))
          clear hm5 M5
          generalize bstr (Lz.copyB l d j) = s at *
          go_wp2_with fail
          go_ret
          exact ⟨rfl, HBf.out⟩
  · have q3 : decide ((15 : Int) ≤ (k : Int)) = true := by rw [decide_eq_true_eq]; omega
    have q3' : decide (15 ≤ k) = true := by rw [decide_eq_true_eq]; omega
    have hext : Lz.ext k = List.replicate ((k - 15) / 255) 255 ++ [(k - 15) % 255] := by unfold Lz.ext; rw [if_neg hk15]
    obtain ⟨r0, hr0⟩ : ∃ r0 : Nat, r0 = k - 15 := ⟨_, rfl⟩
    have hn19 : (n : Int) - 19 = (r0 : Int) := by omega
    rw [← hr0] at hext
    have Hr0 := Lib.hid hr0
    clear hr0
    go_wp2_with (at_builtin; refine wpList_append_sl (base := w1.heap.size) _ rfl (.tmp 48) (.tmp 54) _ rfl Try.underlying22 hi0 hz0 hs0 hb0 rfl rfl Mz.out.own rfl (byts_length [d0, d1]).symm (by simp) Sz.out (byts_one _) (by rw [byts_length]; exact Nat.le_refl _) (by rw [byts_length]; unfold maxLen; simp; omega) (by rw [byts_length]; simp; omega) Mz.out.bel.size ?_; intro v6 w6 h1 h2 _; obtain ⟨A6, c6, rfl, m6⟩ := Mz.out.app (r := [d0, d1]) rfl (show bl + 2 = bl + 2 from rfl) h1 h2; have M6 := Lib.hid m6; clear h1 h2 m6)
    go_loopw [9, 10] (fun v a wr => ∃ (j r : Nat) (A' : Option Addr) (c' : Nat), r + 255 * j = r0 ∧ a = .int .i64 r ∧ v = .slice A' (bl + 2 + j) c' ∧ Mine w1 wr A' (bl + 2 + j) c' (T1 :: (Lz.ext N ++ l) ++ [d0, d1] ++ List.replicate j 255)) (fun _ a _ => (intOf a).toNat)
    case atStart => exact ⟨0, r0, A6, c6, by omega, rfl, rfl, by simpa using M6.out⟩
    case round =>
    obtain ⟨j, r, A', c', hr, rfl, rfl, hm⟩ := hrel
    have M := Lib.hid hm
    clear hm M6
    by_cases h255 : 255 ≤ r
    · have q4 : decide ((255 : Int) ≤ (r : Int)) = true := by rw [decide_eq_true_eq]; omega
      have q4' : decide (255 ≤ r) = true := by rw [decide_eq_true_eq]; omega
      have Mz1 := Lib.hid (M.out.below (w' := wr.alloc (.cells #[.int .u8 255] 5)) ((Below.refl _ _).alloc (Nat.le_refl _) _))
      have Sz1 := Lib.hid (sl_cells (w := wr) (cs := #[.int .u8 255]) (l := [255]) rfl)
      clear M
      go_wp2_with (at_builtin; refine wpList_append_sl (base := w1.heap.size) _ rfl (.tmp 65) (.tmp 66) _ rfl Try.underlying22 hi0 hz0 hs0 hb0 rfl rfl Mz1.out.own rfl (byts_length [255]).symm (by simp) Sz1.out (byts_one _) (by rw [byts_length]; exact Nat.le_refl _) (by rw [byts_length]; unfold maxLen; simp; omega) (by rw [byts_length]; simp; omega) Mz1.out.bel.size ?_; intro v7 w7 h1 h2 _; obtain ⟨A7, c7, rfl, m7⟩ := Mz1.out.app (r := [255]) rfl (show bl + 2 + j + 1 = bl + 2 + (j + 1) from rfl) h1 h2; have M7 := Lib.hid m7; clear h1 h2 m7)
      go_roundw
      case rel => exact ⟨j + 1, r - 255, A7, c7, by omega, by go_num, rfl, by rw [List.replicate_succ', ← List.append_assoc]; exact M7.out⟩
      case measure => simp [intOf]; omega
    have q4 : decide ((255 : Int) ≤ (r : Int)) = false := by rw [decide_eq_false_iff_not]; omega
    have q4' : decide (255 ≤ r) = false := by rw [decide_eq_false_iff_not]; omega
    have hrb : r < 255 := by omega
    have hrw : (r : Int) % 256 = (r : Int) := by omega
    have hjb : j ≤ 3 := by have := Hr0.out; omega
    have hext2 : Lz.ext k = List.replicate j 255 ++ [r] := by rw [hext, show r0 / 255 = j by omega, show r0 % 255 = r by omega]
    have Hzl3 := Lib.hid (show bl + 2 + j + 1 + 1 = zl by rw [Hzl2.out, hext2, List.length_append, List.length_replicate]; simp; omega)
    have Hext := Lib.hid hext2
    have Mz1 := Lib.hid (M.out.below (w' := wr.alloc (.cells #[.int .u8 (r : Int)] 5)) ((Below.refl _ _).alloc (Nat.le_refl _) _))
    have Sz1 := Lib.hid (sl_cells (w := wr) (cs := #[.int .u8 (r : Int)]) (l := [r]) rfl)
    clear hext2 hext Hzl2 M hr h255
    go_wp2_with (at_builtin; first
      | (refine wpList_append_sl (base := w1.heap.size) _ rfl (.tmp 68) (.tmp 71) _ rfl Try.underlying22 hi0 hz0 hs0 hb0 rfl rfl Mz1.out.own rfl (byts_length [r]).symm (by simp) Sz1.out (byts_one _) (by rw [byts_length]; exact Nat.le_refl _) (by rw [byts_length]; unfold maxLen; simp; omega) (by rw [byts_length]; simp; omega) Mz1.out.bel.size ?_; intro v6 w6 h1 h2 _; obtain ⟨A9, c9, rfl, m6⟩ := Mz1.out.app (r := [r]) rfl (show bl + 2 + j + 1 = bl + 2 + j + 1 from rfl) h1 h2; have Mz6 := Lib.hid (m6.below (w' := w6.alloc (.cells #[.int .u8 0] 5)) ((Below.refl _ _).alloc (Nat.le_refl _) _)); have Sz6 := Lib.hid (sl_cells (w := w6) (cs := #[.int .u8 0]) (l := [0]) rfl); clear h1 h2 m6)
      | (refine wpList_append_sl (base := w1.heap.size) _ rfl (.tmp 73) (.tmp 74) _ rfl Try.underlying22 hi0 hz0 hs0 hb0 rfl rfl Mz6.out.own rfl (byts_length [0]).symm (by simp) Sz6.out (byts_one _) (by rw [byts_length]; exact Nat.le_refl _) (by rw [byts_length]; unfold maxLen; simp; omega) (by rw [byts_length]; simp; omega) Mz6.out.bel.size ?_; intro v7 w7 h1 h2 _; obtain ⟨A7, c7, rfl, m7⟩ := Mz6.out.app (r := [0]) rfl Hzl3.out h1 h2; have M7 := Lib.hid m7; clear h1 h2 m7))
    have HZe := Lib.hid (show T1 :: (Lz.ext N ++ l) ++ [d0, d1] ++ List.replicate j 255 ++ [r] ++ [0] = Z by rw [HZp.out]; simp [Hext.out])
    have m7z := M7.out
    rw [HZe.out] at m7z
    have Y7 := Lib.hid (By.of_own m7z.own HZb.out (by have := HZl.out; omega))
    have HB7 := Lib.hid (HB1.out.trans (m7z.bel.mono HB1.out.size))
    have HY7 := Lib.hid (HY1.out.below m7z.bel)
    clear m7z M7 HZe
    refine (C1.out _ _ _ Y7.out).mono ?_
    rintro e w8 ⟨A8, c8, rfl, y8, b8⟩
    have HB8 := Lib.hid (HB7.out.trans (b8.mono HB7.out.size))
    have Y78 := Lib.hid (Y7.out.below b8)
    have HY8 := Lib.hid (HY7.out.below b8)
    have D8 := Lib.hid y8
    clear y8 b8 HB7 Y7 HY7 C1
    by_cases hform : d = 0 ∨ N < d
    · have u1 : Lz.unpack Z ((N : Int) + (n : Int)) = ([], 4) := by rw [HU1.out, if_neg (by omega), if_pos hform]
      rw [u1] at D8
      obtain ⟨D2, E2, u2⟩ : ∃ D2 E2, Lz.unpack Z ((N : Int) + (n : Int) - 1) = (D2, E2) := ⟨_, _, rfl⟩
      obtain ⟨D3, E3, u3⟩ : ∃ D3 E3, Lz.unpack Z ((N : Int) + (n : Int) + 1) = (D3, E3) := ⟨_, _, rfl⟩
      rw [u2] at C2
      rw [u3] at C3
      rw [u1]
      have early : ∀ x y : Bool, ((d : Int) == 0) = x → (d == 0) = x → decide ((N : Int) < (d : Int)) = y → decide (N < d) = y → (x = true ∨ y = true) → (x = true ∧ d = 0) ∨ (x = false ∧ y = true) := by
        intro x y h1 h2 h3 h4 h
        cases x
        · exact .inr ⟨rfl, h.resolve_left (by decide)⟩
        · exact .inl ⟨rfl, by simpa using h2⟩
      have hx := early _ _ rfl (by rw [Bool.eq_iff_iff, beq_iff_eq, beq_iff_eq]; omega) rfl (by rw [decide_eq_decide]; omega) (by
        rcases hform with h | h
        · exact .inl (by rw [beq_iff_eq]; omega)
        · exact .inr (by rw [decide_eq_true_eq]; omega))
      clear early hform u1 u2 u3 HU1 HU2 HU3
      simp only at D8 ⊢
      go_wp2_with fail
      refine (C2.out _ _ _ Y78.out).mono ?_
      rintro e w9 ⟨A9, c9, rfl, -, b9⟩
      have HB9 := Lib.hid (HB8.out.trans (b9.mono HB8.out.size))
      have Y9 := Lib.hid (Y78.out.below b9)
      clear b9 HB8 Y78 C2
      simp only
      generalize D2.length = l2 at *
      go_wp2_with fail
      refine (C3.out _ _ _ Y9.out).mono ?_
      rintro e w10 ⟨A10, c10, rfl, -, b10⟩
      have HB10 := Lib.hid (HB9.out.trans (b10.mono HB9.out.size))
      clear b10 HB9 Y9 C3
      simp only
      generalize D3.length = l3 at *
      rcases hx with ⟨hx, hd0⟩ | ⟨hx, hy⟩
      · clear hd0
        have hx' : (d == 0) = true := by rw [beq_iff_eq] at hx ⊢; omega
        go_wp2_with fail
        go_ret
        exact ⟨rfl, HB10.out⟩
      · have hx' : (d == 0) = false := by rw [beq_eq_false_iff_ne] at hx ⊢; omega
        have hy' : decide (N < d) = true := by rw [decide_eq_true_eq] at hy ⊢; omega
        go_wp2_with fail
        go_ret
        exact ⟨rfl, HB10.out⟩
    · have hd1' : 0 < d := by omega
      have hdN : d ≤ N := by omega
      have u1 : Lz.unpack Z ((N : Int) + (n : Int)) = (Lz.copyB l d n, 0) := by rw [HU1.out, if_neg (by omega), if_neg hform, if_neg (by omega), if_neg (by omega), show k + 4 = n by omega]
      have u2 : Lz.unpack Z ((N : Int) + (n : Int) - 1) = ([], 3) := by rw [HU2.out, if_neg (by omega), if_neg hform, if_pos (by omega)]
      have u3 : Lz.unpack Z ((N : Int) + (n : Int) + 1) = ([], 2) := by rw [HU3.out, if_neg (by omega), if_neg hform, if_neg (by omega), if_pos (by omega)]
      rw [u1] at D8
      rw [u2] at C2
      rw [u3] at C3
      rw [u1]
      have q5 : ((d : Int) == 0) = false := by rw [beq_eq_false_iff_ne]; omega
      have q5' : (d == 0) = false := by rw [beq_eq_false_iff_ne]; omega
      have q6 : decide ((N : Int) < (d : Int)) = false := by rw [decide_eq_false_iff_not]; omega
      have q6' : decide (N < d) = false := by rw [decide_eq_false_iff_not]; omega
      have hcl : (Lz.copyB l d n).length = N + n := by rw [Lz.copyB_len, HN.out]
      have Hcl := Lib.hid hcl
      clear hform u1 u2 u3 HU1 HU2 HU3 hcl
      simp only at D8 ⊢
      rw [Hcl.out]
      go_wp2_with fail
      refine (C2.out _ _ _ Y78.out).mono ?_
      rintro e w9 ⟨A9, c9, rfl, -, b9⟩
      have HB9 := Lib.hid (HB8.out.trans (b9.mono HB8.out.size))
      have Y9 := Lib.hid (Y78.out.below b9)
      have HY9 := Lib.hid (HY8.out.below b9)
      have D9 := Lib.hid (D8.out.below b9)
      clear b9 HB8 Y78 HY8 D8 C2
      simp only [List.length_nil]
      go_wp2_with fail
      refine (C3.out _ _ _ Y9.out).mono ?_
      rintro e w10 ⟨A10, c10, rfl, -, b10⟩
      have HB10 := Lib.hid (HB9.out.trans (b10.mono HB9.out.size))
      have HY10 := Lib.hid (HY9.out.below b10)
      have D10 := Lib.hid (D9.out.below b10)
      have M10 := Lib.hid (mine_empty (w0 := w10) (w := w10) (Below.refl _ _))
      have Y10 := Lib.hid (HY10.out.below M10.out.bel)
      have Ll := Lib.hid (show (byts l).length = N by rw [byts_length, HN.out])
      clear b10 HB9 Y9 HY9 D9 C3
      simp only [List.length_nil]
      go_wp2_with (at_builtin; refine wpList_append_sl (base := w10.heap.size) _ rfl (.tmp 120) (.tmp 121) _ rfl Try.underlying22 hi0 hz0 hs0 hb0 rfl rfl M10.out.own rfl Ll.out.symm Y10.out.nil Y10.out.sl (byts_one _) (by rw [Ll.out, HN.out]; exact Y10.out.cap) (by rw [Ll.out]; unfold maxLen; omega) (by rw [Ll.out]; omega) M10.out.bel.size ?_; intro v11 w11 h1 h2 _; obtain ⟨A11, c11, rfl, m11⟩ := M10.out.app (r := l) HN.out.symm (Nat.zero_add N) h1 h2; have M11 := Lib.hid m11; clear h1 h2 m11)
      go_loopw [17, 18] (fun v i wr => ∃ (j : Nat) (A' : Option Addr) (c' : Nat), j ≤ n ∧ i = .int .i64 j ∧ v = .slice A' (N + j) c' ∧ Mine w10 wr A' (N + j) c' (Lz.copyB l d j)) (fun _ i _ => n - (intOf i).toNat)
      case atStart => exact ⟨0, A11, c11, Nat.zero_le _, rfl, rfl, M11.out⟩
      case round =>
        obtain ⟨j, A5, c5, hj, rfl, rfl, hm5⟩ := hrel
        have M5 := Lib.hid hm5
        by_cases hjn : j < n
        · have q9 : decide ((j : Int) < (n : Int)) = true := by rw [decide_eq_true_eq]; omega
          have hlen5 := hm5.len
          obtain ⟨ix, hix⟩ : ∃ ix : Nat, ix = N + j - d := ⟨_, rfl⟩
          have hixi : (N : Int) + (j : Int) - (d : Int) = (ix : Int) := by omega
          have hixb : ix < N + j := by omega
          obtain ⟨b5, o5, rfl, c5x⟩ := sl_cell hm5.sl (k := ix) (by omega)
          have hn5 := Lib.hid (Lz.copyB_next d j l)
          rw [hlen5, ← hix] at hn5
          obtain ⟨X, hX⟩ : ∃ X, X = Lz.copyB l d j := ⟨_, rfl⟩
          rw [← hX] at hn5 M5 c5x
          have HX := Lib.hid hX
          have hy5 := getB_lt (Lz.copyB_lt (back := d) (k := j) HY10.out.lt) ix
          rw [← hX] at hy5
          clear hX hm5 hlen5
          generalize hy : X.getD ix 0 = y at *
          have Mz := Lib.hid (M5.out.below (w' := wr.alloc (.cells #[.int .u8 (y : Int)] 5)) ((Below.refl _ _).alloc (Nat.le_refl _) _))
          have Sz := Lib.hid (sl_cells (w := wr) (cs := #[.int .u8 (y : Int)]) (l := [y]) rfl)
          have Hix := Lib.hid hix
          clear hy M5 hix
          go_wp2_with (at_builtin; refine wpList_append_sl (base := w10.heap.size) _ rfl (.tmp 128) (.tmp 136) _ rfl Try.underlying22 hi0 hz0 hs0 hb0 rfl rfl Mz.out.own rfl (byts_length [y]).symm (by simp) Sz.out (byts_one _) (by rw [byts_length]; exact Nat.le_refl _) (by rw [byts_length]; unfold maxLen; simp; omega) (by rw [byts_length]; simp; omega) Mz.out.bel.size ?_; intro v6 w12 h1 h2 _; obtain ⟨A12, c12, rfl, m12⟩ := Mz.out.app (r := [y]) rfl (show N + j + 1 = N + (j + 1) from rfl) h1 h2; have M12 := Lib.hid m12; clear h1 h2 m12)
          go_roundw
          case rel => exact ⟨j + 1, A12, c12, by omega, by go_num, rfl, by rw [hn5.out]; exact M12.out⟩
          case measure => simp [intOf]; omega
        · have hjn' : j = n := by omega
          subst hjn'
          have q9 : decide ((j : Int) < (j : Int)) = false := by simp
          have k1 := conv_b (cap := c8) (D10.out.below hm5.bel).sl
          have k2 := conv_b (A := A5) (cap := c5) (l := Lz.copyB l d j) hm5.sl
          rw [Hcl.out] at k1 k2
          have HBf := Lib.hid (HB10.out.trans (hm5.bel.mono HB10.out.size))
          clear hm5 M5
          generalize bstr (Lz.copyB l d j) = s at *
          go_wp2_with fail
          go_ret
          exact ⟨rfl, HBf.out⟩
end Go.Proofs.Ytpfhkbagapodoaa
