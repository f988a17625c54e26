/- The program's Choose. -/
import Derived.Test.YthdmghocfngfgaaCdec2
namespace Go.Proofs.Ythdmghocfngfgaa
open Go.RowKit Crc

/-- The crown that counts. -/
def chV (a b : List Nat) : Cn.C := if (Cn.chooseE a b).2 = 0 then (if (Cn.chooseE a b).1 = 0 then Cn.fields a else Cn.fields b) else zeroC
/-- How Choose ends. -/
def ChR (a b : List Nat) (w : World) (e : Ending) (w' : World) : Prop := e = .returned (.tuple #[crV (chV a b), .int .i64 (((Cn.chooseE a b).1 : Nat) : Int), .int .i64 (((Cn.chooseE a b).2 : Nat) : Int)]) ∧ Below w.heap.size w w'
/-- Choose half way: both crowns that were read. -/
structure De3 (w W : World) (r p q : Nat) (c d : Cn.C) : Prop where
  one : De2 w W r p c
  two : Blk W q 36 (crC d)
theorem De2.put {w W : World} {r p : Nat} {c : Cn.C} (h : De2 w W r p c) (d : Cn.C) : De3 w (W.alloc (.cells (crC d) 36)) r p W.heap.size c d :=
  ⟨h.below ((Below.refl _ _).alloc (Nat.le_refl _) _), Blk.new _ _ _⟩

set_option maxHeartbeats 16000000 in
theorem choose_any (A B : Option Addr) (ca cb : Nat) (la lb : List Nat) (hla : ∀ x ∈ la, x < 256) (hlb : ∀ x ∈ lb, x < 256) (hca : la.length ≤ ca) (hcb : lb.length ≤ cb) (na nb : Nat) (hna : na = la.length) (hnb : nb = lb.length) (hma : na ≤ 9223372036854775807) (hmb : nb ≤ 9223372036854775807) {w : World} (hsa : Sl w w.heap.size A (byts la)) (hsb : Sl w w.heap.size B (byts lb)) :
    Calls Try.prog 21 #[.slice A na ca, .slice B nb cb] w (ChR la lb w) := by
  have BA : Hid (∀ (W : World) (r : Nat), De w W r → Calls Try.prog 19 #[.slice A na ca] W fun e w' => e = .returned (.bool (Cn.blank la)) ∧ w' = W) := Lib.hid (fun W r h => cblank_any A ca la hla na hna hma (sl_keep hsa h.bel))
  have BB : Hid (∀ (W : World) (r : Nat), De w W r → Calls Try.prog 19 #[.slice B nb cb] W fun e w' => e = .returned (.bool (Cn.blank lb)) ∧ w' = W) := Lib.hid (fun W r h => cblank_any B cb lb hlb nb hnb hmb (sl_keep hsb h.bel))
  have DA : Hid (∀ (W : World) (r : Nat), De w W r → Calls Try.prog 16 #[.slice A na ca] W fun e w' => e = .returned (.tuple #[crV (if Cn.decE la = 0 then Cn.fields la else zeroC), .int .i64 ((Cn.decE la : Nat) : Int)]) ∧ Below W.heap.size W w') := Lib.hid (fun W r h => cdec_any A ca la hla hca na hna (sl_keep hsa h.bel))
  have DB : Hid (∀ (W : World) (r : Nat), De w W r → Calls Try.prog 16 #[.slice B nb cb] W fun e w' => e = .returned (.tuple #[crV (if Cn.decE lb = 0 then Cn.fields lb else zeroC), .int .i64 ((Cn.decE lb : Nat) : Int)]) ∧ Below W.heap.size W w') := Lib.hid (fun W r h => cdec_any B cb lb hlb hcb nb hnb (sl_keep hsb h.bel))
  have hab : Cn.blank la = true → Cn.decE la ≠ 0 := Cn.dec_blank
  have hbb : Cn.blank lb = true → Cn.decE lb ≠ 0 := Cn.dec_blank
  unfold ChR chV
  have HD := Lib.hid (De.new w)
  obtain ⟨W, hW⟩ : ∃ W, w.alloc (.cells (crC zeroC) 36) = W := ⟨_, rfl⟩
  rw [hW] at HD
  have hcur := HD.out
  have hsf := store_float
  have HC : Cn.chooseE la lb = Cn.chooseE la lb := rfl
  conv at HC => rhs; unfold Cn.chooseE
  obtain ⟨CH, hCH⟩ : ∃ c, Cn.chooseE la lb = c := ⟨_, rfl⟩
  rw [hCH] at HC ⊢
  obtain ⟨bA, hbA⟩ : ∃ c, Cn.blank la = c := ⟨_, rfl⟩
  obtain ⟨bB, hbB⟩ : ∃ c, Cn.blank lb = c := ⟨_, rfl⟩
  obtain ⟨eA, heA⟩ : ∃ c, Cn.decE la = c := ⟨_, rfl⟩
  obtain ⟨eB, heB⟩ : ∃ c, Cn.decE lb = c := ⟨_, rfl⟩
  obtain ⟨fA, hfA⟩ : ∃ c, Cn.fields la = c := ⟨_, rfl⟩
  obtain ⟨fB, hfB⟩ : ∃ c, Cn.fields lb = c := ⟨_, rfl⟩
  rw [hbA] at BA hab HC
  rw [hbB] at BB hbb HC
  rw [heA, hfA] at DA
  rw [heB, hfB] at DB
  rw [heA, hfA, heB, hfB] at HC
  rw [heA] at hab
  rw [heB] at hbb
  rw [hfA, hfB]
  obtain ⟨vA, hvA⟩ : ∃ c, (if eA = 0 then fA else zeroC) = c := ⟨_, rfl⟩
  obtain ⟨vB, hvB⟩ : ∃ c, (if eB = 0 then fB else zeroC) = c := ⟨_, rfl⟩
  rw [hvA] at DA
  rw [hvB] at DB
  have HvA : Hid (eA = 0 → vA = fA) := Lib.hid (fun h => by rw [← hvA, if_pos h])
  have HvB : Hid (eB = 0 → vB = fB) := Lib.hid (fun h => by rw [← hvB, if_pos h])
  clear hCH hbA hbB heA heB hfA hfB hvA hvB hsa hsb hla hlb hca hcb hna hnb hma hmb
  obtain ⟨x1, x2, x3, x4, x5, x6, x7, x8⟩ := vA
  obtain ⟨z1, z2, z3, z4, z5, z6, z7, z8⟩ := vB
  have HCC := Lib.hid HC
  have Hab := Lib.hid hab
  have Hbb := Lib.hid hbb
  clear HC hab hbb HD
  simp only [crC, zeroC] at hW
  simp only [crV] at DA DB
  cases bA
  · cases bB
    · by_cases hea : eA = 0
      · by_cases heb : eB = 0
        · by_cases heq : x1 = z1
          · have HA := HvA.out (by omega)
            have hgA : fA.gen = x1 := by rw [← HA]
            clear HA
            have HB := HvB.out (by omega)
            have hgB : fB.gen = z1 := by rw [← HB]
            clear HB
            obtain rfl : CH = (0, 4) := by rw [HCC.out]; simp [hea, heb, hgA, hgB, heq]
            rw [if_neg (by decide)]
            simp only [crV, zeroC]
            clear HCC HvA HvB Hab Hbb
            have peA1 : ((eA : Int) == 0) = true := by simp; omega
            have peA2 : (eA == 0) = true := by simp; omega
            have peA3 : ((eA : Int) != 0) = false := by simp; omega
            have peA4 : (eA != 0) = false := by simp; omega
            have peB1 : ((eB : Int) == 0) = true := by simp; omega
            have peB2 : (eB == 0) = true := by simp; omega
            have peB3 : ((eB : Int) != 0) = false := by simp; omega
            have peB4 : (eB != 0) = false := by simp; omega
            have q1 : (x1 == z1) = true := by simp; omega
            clear heq hgA hgB
            go_enter Try.func21, Try.ntmps21
            go_wp2_with (first
              | (go_at_call 19; (with_reducible refine (BA.out _ _ hcur).mono ?_); rintro e w' ⟨rfl, hw'⟩; subst hw')
              | (go_at_call 19; (with_reducible refine (BB.out _ _ hcur).mono ?_); rintro e w' ⟨rfl, hw'⟩; subst hw')
              | (go_at_call 16; (with_reducible refine (DA.out _ _ hcur).mono ?_); rintro e W3 ⟨rfl, hb3⟩; have h4 := (hcur.below hb3).put ⟨x1, x2, x3, x4, x5, x6, x7, x8⟩; obtain ⟨W4, hW4⟩ : ∃ W4, W3.alloc (.cells (crC ⟨x1, x2, x3, x4, x5, x6, x7, x8⟩) 36) = W4 := ⟨_, rfl⟩; rw [hW4] at h4; simp only [crC] at hW4; have h4 := Lib.hid h4; clear hcur hb3)
              | (go_at_call 16; (with_reducible refine (DB.out _ _ h4.out.de).mono ?_); rintro e W5 ⟨rfl, hb5⟩; have h6 := (h4.out.below hb5).put ⟨z1, z2, z3, z4, z5, z6, z7, z8⟩; obtain ⟨W6, hW6⟩ : ∃ W6, W5.alloc (.cells (crC ⟨z1, z2, z3, z4, z5, z6, z7, z8⟩) 36) = W6 := ⟨_, rfl⟩; rw [hW6] at h6; simp only [crC] at hW6; obtain ⟨f0, f1, f2, f3, f4, f5, f6, f7⟩ := crcells h6.one.box; obtain ⟨s0, s1, s2, s3, s4, s5, s6, s7⟩ := crcells h6.two; simp only at f0 f1 f2 f3 f4 f5 f6 f7 s0 s1 s2 s3 s4 s5 s6 s7; obtain ⟨V2, hV2, hk2, hb2⟩ := cr_put h6.one.de.res (zeroC); have Fin := Lib.hid (h6.one.de.bel.trans (hb2 _ h6.one.de.hr)); obtain ⟨v0, v1, v2, v3, v4, v5, v6, v7⟩ := crcells h6.one.de.res; obtain ⟨t0, t1, t2, t3, t4, t5, t6, t7⟩ := crfroz h6.one.de.res; obtain ⟨y0, y1, y2, y3, y4, y5, y6, y7⟩ := crcells hk2; simp only [zeroC] at hV2 v0 v1 v2 v3 v4 v5 v6 v7 y0 y1 y2 y3 y4 y5 y6 y7; clear hk2 hb2; clear hb5))
            refine bodyPost_ret (v := .tuple #[.agg #[.int .i64 0, .int .i64 0, .int .i64 0, .float .f64 0, .int .i64 0, .int .i64 0, .int .i64 0, .int .i64 0], .int .i64 0, .int .i64 4]) ?_ rfl ⟨rfl, Fin.out⟩
            simp [results, Try.results21]
            go_simp
          · by_cases hgt : z1 < x1
            · have HA := HvA.out (by omega)
              have hgA : fA.gen = x1 := by rw [← HA]
              clear HA
              have HB := HvB.out (by omega)
              have hgB : fB.gen = z1 := by rw [← HB]
              clear HB
              obtain rfl : CH = (0, 0) := by rw [HCC.out]; simp [hea, heb, hgA, hgB, heq, hgt]
              rw [if_pos rfl, if_pos rfl, ← HvA.out (by omega)]
              simp only [crV]
              clear HCC HvA HvB Hab Hbb
              have peA1 : ((eA : Int) == 0) = true := by simp; omega
              have peA2 : (eA == 0) = true := by simp; omega
              have peA3 : ((eA : Int) != 0) = false := by simp; omega
              have peA4 : (eA != 0) = false := by simp; omega
              have peB1 : ((eB : Int) == 0) = true := by simp; omega
              have peB2 : (eB == 0) = true := by simp; omega
              have peB3 : ((eB : Int) != 0) = false := by simp; omega
              have peB4 : (eB != 0) = false := by simp; omega
              have q1 : (x1 == z1) = false := by simp; omega
              have q2 : decide (z1 < x1) = true := by simpa using hgt
              clear heq hgA hgB
              go_enter Try.func21, Try.ntmps21
              go_wp2_with (first
                | (go_at_call 19; (with_reducible refine (BA.out _ _ hcur).mono ?_); rintro e w' ⟨rfl, hw'⟩; subst hw')
                | (go_at_call 19; (with_reducible refine (BB.out _ _ hcur).mono ?_); rintro e w' ⟨rfl, hw'⟩; subst hw')
                | (go_at_call 16; (with_reducible refine (DA.out _ _ hcur).mono ?_); rintro e W3 ⟨rfl, hb3⟩; have h4 := (hcur.below hb3).put ⟨x1, x2, x3, x4, x5, x6, x7, x8⟩; obtain ⟨W4, hW4⟩ : ∃ W4, W3.alloc (.cells (crC ⟨x1, x2, x3, x4, x5, x6, x7, x8⟩) 36) = W4 := ⟨_, rfl⟩; rw [hW4] at h4; simp only [crC] at hW4; have h4 := Lib.hid h4; clear hcur hb3)
                | (go_at_call 16; (with_reducible refine (DB.out _ _ h4.out.de).mono ?_); rintro e W5 ⟨rfl, hb5⟩; have h6 := (h4.out.below hb5).put ⟨z1, z2, z3, z4, z5, z6, z7, z8⟩; obtain ⟨W6, hW6⟩ : ∃ W6, W5.alloc (.cells (crC ⟨z1, z2, z3, z4, z5, z6, z7, z8⟩) 36) = W6 := ⟨_, rfl⟩; rw [hW6] at h6; simp only [crC] at hW6; obtain ⟨f0, f1, f2, f3, f4, f5, f6, f7⟩ := crcells h6.one.box; obtain ⟨s0, s1, s2, s3, s4, s5, s6, s7⟩ := crcells h6.two; simp only at f0 f1 f2 f3 f4 f5 f6 f7 s0 s1 s2 s3 s4 s5 s6 s7; obtain ⟨V2, hV2, hk2, hb2⟩ := cr_put h6.one.de.res (⟨x1, x2, x3, x4, x5, x6, x7, x8⟩); have Fin := Lib.hid (h6.one.de.bel.trans (hb2 _ h6.one.de.hr)); obtain ⟨v0, v1, v2, v3, v4, v5, v6, v7⟩ := crcells h6.one.de.res; obtain ⟨t0, t1, t2, t3, t4, t5, t6, t7⟩ := crfroz h6.one.de.res; obtain ⟨y0, y1, y2, y3, y4, y5, y6, y7⟩ := crcells hk2; simp only [zeroC] at hV2 v0 v1 v2 v3 v4 v5 v6 v7 y0 y1 y2 y3 y4 y5 y6 y7; clear hk2 hb2; clear hb5))
              refine bodyPost_ret (v := .tuple #[.agg #[.int .i64 x1, .int .i64 x2, .int .i64 x3, .float .f64 x4, .int .i64 x5, .int .i64 x6, .int .i64 x7, .int .i64 x8], .int .i64 0, .int .i64 0]) ?_ rfl ⟨rfl, Fin.out⟩
              simp [results, Try.results21]
              go_simp
            · have HA := HvA.out (by omega)
              have hgA : fA.gen = x1 := by rw [← HA]
              clear HA
              have HB := HvB.out (by omega)
              have hgB : fB.gen = z1 := by rw [← HB]
              clear HB
              obtain rfl : CH = (1, 0) := by rw [HCC.out]; simp [hea, heb, hgA, hgB, heq, hgt]
              rw [if_pos rfl, if_neg (by decide), ← HvB.out (by omega)]
              simp only [crV]
              clear HCC HvA HvB Hab Hbb
              have peA1 : ((eA : Int) == 0) = true := by simp; omega
              have peA2 : (eA == 0) = true := by simp; omega
              have peA3 : ((eA : Int) != 0) = false := by simp; omega
              have peA4 : (eA != 0) = false := by simp; omega
              have peB1 : ((eB : Int) == 0) = true := by simp; omega
              have peB2 : (eB == 0) = true := by simp; omega
              have peB3 : ((eB : Int) != 0) = false := by simp; omega
              have peB4 : (eB != 0) = false := by simp; omega
              have q1 : (x1 == z1) = false := by simp; omega
              have q2 : decide (z1 < x1) = false := by simpa using hgt
              clear heq hgA hgB
              go_enter Try.func21, Try.ntmps21
              go_wp2_with (first
                | (go_at_call 19; (with_reducible refine (BA.out _ _ hcur).mono ?_); rintro e w' ⟨rfl, hw'⟩; subst hw')
                | (go_at_call 19; (with_reducible refine (BB.out _ _ hcur).mono ?_); rintro e w' ⟨rfl, hw'⟩; subst hw')
                | (go_at_call 16; (with_reducible refine (DA.out _ _ hcur).mono ?_); rintro e W3 ⟨rfl, hb3⟩; have h4 := (hcur.below hb3).put ⟨x1, x2, x3, x4, x5, x6, x7, x8⟩; obtain ⟨W4, hW4⟩ : ∃ W4, W3.alloc (.cells (crC ⟨x1, x2, x3, x4, x5, x6, x7, x8⟩) 36) = W4 := ⟨_, rfl⟩; rw [hW4] at h4; simp only [crC] at hW4; have h4 := Lib.hid h4; clear hcur hb3)
                | (go_at_call 16; (with_reducible refine (DB.out _ _ h4.out.de).mono ?_); rintro e W5 ⟨rfl, hb5⟩; have h6 := (h4.out.below hb5).put ⟨z1, z2, z3, z4, z5, z6, z7, z8⟩; obtain ⟨W6, hW6⟩ : ∃ W6, W5.alloc (.cells (crC ⟨z1, z2, z3, z4, z5, z6, z7, z8⟩) 36) = W6 := ⟨_, rfl⟩; rw [hW6] at h6; simp only [crC] at hW6; obtain ⟨f0, f1, f2, f3, f4, f5, f6, f7⟩ := crcells h6.one.box; obtain ⟨s0, s1, s2, s3, s4, s5, s6, s7⟩ := crcells h6.two; simp only at f0 f1 f2 f3 f4 f5 f6 f7 s0 s1 s2 s3 s4 s5 s6 s7; obtain ⟨V2, hV2, hk2, hb2⟩ := cr_put h6.one.de.res (⟨z1, z2, z3, z4, z5, z6, z7, z8⟩); have Fin := Lib.hid (h6.one.de.bel.trans (hb2 _ h6.one.de.hr)); obtain ⟨v0, v1, v2, v3, v4, v5, v6, v7⟩ := crcells h6.one.de.res; obtain ⟨t0, t1, t2, t3, t4, t5, t6, t7⟩ := crfroz h6.one.de.res; obtain ⟨y0, y1, y2, y3, y4, y5, y6, y7⟩ := crcells hk2; simp only [zeroC] at hV2 v0 v1 v2 v3 v4 v5 v6 v7 y0 y1 y2 y3 y4 y5 y6 y7; clear hk2 hb2; clear hb5))
              refine bodyPost_ret (v := .tuple #[.agg #[.int .i64 z1, .int .i64 z2, .int .i64 z3, .float .f64 z4, .int .i64 z5, .int .i64 z6, .int .i64 z7, .int .i64 z8], .int .i64 1, .int .i64 0]) ?_ rfl ⟨rfl, Fin.out⟩
              simp [results, Try.results21]
              go_simp
        · obtain rfl : CH = (0, 5) := by rw [HCC.out]; simp [hea, heb]
          rw [if_neg (by decide)]
          simp only [crV, zeroC]
          clear HCC HvA HvB Hab Hbb
          have peA1 : ((eA : Int) == 0) = true := by simp; omega
          have peA2 : (eA == 0) = true := by simp; omega
          have peA3 : ((eA : Int) != 0) = false := by simp; omega
          have peA4 : (eA != 0) = false := by simp; omega
          have peB1 : ((eB : Int) == 0) = false := by simp; omega
          have peB2 : (eB == 0) = false := by simp; omega
          have peB3 : ((eB : Int) != 0) = true := by simp; omega
          have peB4 : (eB != 0) = true := by simp; omega
          go_enter Try.func21, Try.ntmps21
          go_wp2_with (first
            | (go_at_call 19; (with_reducible refine (BA.out _ _ hcur).mono ?_); rintro e w' ⟨rfl, hw'⟩; subst hw')
            | (go_at_call 19; (with_reducible refine (BB.out _ _ hcur).mono ?_); rintro e w' ⟨rfl, hw'⟩; subst hw')
            | (go_at_call 16; (with_reducible refine (DA.out _ _ hcur).mono ?_); rintro e W3 ⟨rfl, hb3⟩; have h4 := (hcur.below hb3).put ⟨x1, x2, x3, x4, x5, x6, x7, x8⟩; obtain ⟨W4, hW4⟩ : ∃ W4, W3.alloc (.cells (crC ⟨x1, x2, x3, x4, x5, x6, x7, x8⟩) 36) = W4 := ⟨_, rfl⟩; rw [hW4] at h4; simp only [crC] at hW4; have h4 := Lib.hid h4; clear hcur hb3)
            | (go_at_call 16; (with_reducible refine (DB.out _ _ h4.out.de).mono ?_); rintro e W5 ⟨rfl, hb5⟩; have h6 := (h4.out.below hb5).put ⟨z1, z2, z3, z4, z5, z6, z7, z8⟩; obtain ⟨W6, hW6⟩ : ∃ W6, W5.alloc (.cells (crC ⟨z1, z2, z3, z4, z5, z6, z7, z8⟩) 36) = W6 := ⟨_, rfl⟩; rw [hW6] at h6; simp only [crC] at hW6; obtain ⟨f0, f1, f2, f3, f4, f5, f6, f7⟩ := crcells h6.one.box; obtain ⟨s0, s1, s2, s3, s4, s5, s6, s7⟩ := crcells h6.two; simp only at f0 f1 f2 f3 f4 f5 f6 f7 s0 s1 s2 s3 s4 s5 s6 s7; obtain ⟨V2, hV2, hk2, hb2⟩ := cr_put h6.one.de.res (zeroC); have Fin := Lib.hid (h6.one.de.bel.trans (hb2 _ h6.one.de.hr)); obtain ⟨v0, v1, v2, v3, v4, v5, v6, v7⟩ := crcells h6.one.de.res; obtain ⟨t0, t1, t2, t3, t4, t5, t6, t7⟩ := crfroz h6.one.de.res; obtain ⟨y0, y1, y2, y3, y4, y5, y6, y7⟩ := crcells hk2; simp only [zeroC] at hV2 v0 v1 v2 v3 v4 v5 v6 v7 y0 y1 y2 y3 y4 y5 y6 y7; clear hk2 hb2; clear hb5))
          refine bodyPost_ret (v := .tuple #[.agg #[.int .i64 0, .int .i64 0, .int .i64 0, .float .f64 0, .int .i64 0, .int .i64 0, .int .i64 0, .int .i64 0], .int .i64 0, .int .i64 5]) ?_ rfl ⟨rfl, Fin.out⟩
          simp [results, Try.results21]
          go_simp
      · obtain rfl : CH = (0, 5) := by rw [HCC.out]; simp [hea]
        rw [if_neg (by decide)]
        simp only [crV, zeroC]
        clear HCC HvA HvB Hab Hbb
        have peA1 : ((eA : Int) == 0) = false := by simp; omega
        have peA2 : (eA == 0) = false := by simp; omega
        have peA3 : ((eA : Int) != 0) = true := by simp; omega
        have peA4 : (eA != 0) = true := by simp; omega
        go_enter Try.func21, Try.ntmps21
        go_wp2_with (first
          | (go_at_call 19; (with_reducible refine (BA.out _ _ hcur).mono ?_); rintro e w' ⟨rfl, hw'⟩; subst hw')
          | (go_at_call 19; (with_reducible refine (BB.out _ _ hcur).mono ?_); rintro e w' ⟨rfl, hw'⟩; subst hw')
          | (go_at_call 16; (with_reducible refine (DA.out _ _ hcur).mono ?_); rintro e W3 ⟨rfl, hb3⟩; have h4 := (hcur.below hb3).put ⟨x1, x2, x3, x4, x5, x6, x7, x8⟩; obtain ⟨W4, hW4⟩ : ∃ W4, W3.alloc (.cells (crC ⟨x1, x2, x3, x4, x5, x6, x7, x8⟩) 36) = W4 := ⟨_, rfl⟩; rw [hW4] at h4; simp only [crC] at hW4; have h4 := Lib.hid h4; clear hcur hb3)
          | (go_at_call 16; (with_reducible refine (DB.out _ _ h4.out.de).mono ?_); rintro e W5 ⟨rfl, hb5⟩; have h6 := (h4.out.below hb5).put ⟨z1, z2, z3, z4, z5, z6, z7, z8⟩; obtain ⟨W6, hW6⟩ : ∃ W6, W5.alloc (.cells (crC ⟨z1, z2, z3, z4, z5, z6, z7, z8⟩) 36) = W6 := ⟨_, rfl⟩; rw [hW6] at h6; simp only [crC] at hW6; obtain ⟨f0, f1, f2, f3, f4, f5, f6, f7⟩ := crcells h6.one.box; obtain ⟨s0, s1, s2, s3, s4, s5, s6, s7⟩ := crcells h6.two; simp only at f0 f1 f2 f3 f4 f5 f6 f7 s0 s1 s2 s3 s4 s5 s6 s7; obtain ⟨V2, hV2, hk2, hb2⟩ := cr_put h6.one.de.res (zeroC); have Fin := Lib.hid (h6.one.de.bel.trans (hb2 _ h6.one.de.hr)); obtain ⟨v0, v1, v2, v3, v4, v5, v6, v7⟩ := crcells h6.one.de.res; obtain ⟨t0, t1, t2, t3, t4, t5, t6, t7⟩ := crfroz h6.one.de.res; obtain ⟨y0, y1, y2, y3, y4, y5, y6, y7⟩ := crcells hk2; simp only [zeroC] at hV2 v0 v1 v2 v3 v4 v5 v6 v7 y0 y1 y2 y3 y4 y5 y6 y7; clear hk2 hb2; clear hb5))
        refine bodyPost_ret (v := .tuple #[.agg #[.int .i64 0, .int .i64 0, .int .i64 0, .float .f64 0, .int .i64 0, .int .i64 0, .int .i64 0, .int .i64 0], .int .i64 0, .int .i64 5]) ?_ rfl ⟨rfl, Fin.out⟩
        simp [results, Try.results21]
        go_simp
    · have heb : eB ≠ 0 := Hbb.out rfl
      by_cases hea : eA = 0
      · by_cases h1 : x1 = 1
        · have HA := HvA.out (by omega)
          have hgA : fA.gen = x1 := by rw [← HA]
          clear HA
          obtain rfl : CH = (0, 0) := by rw [HCC.out]; simp [hea, hgA, h1]
          rw [if_pos rfl, if_pos rfl, ← HvA.out (by omega)]
          simp only [crV]
          clear HCC HvA HvB Hab Hbb
          have peA1 : ((eA : Int) == 0) = true := by simp; omega
          have peA2 : (eA == 0) = true := by simp; omega
          have peA3 : ((eA : Int) != 0) = false := by simp; omega
          have peA4 : (eA != 0) = false := by simp; omega
          have gx : (x1 == 1) = true := by simp; omega
          clear h1
          go_enter Try.func21, Try.ntmps21
          go_wp2_with (first
            | (go_at_call 19; (with_reducible refine (BA.out _ _ hcur).mono ?_); rintro e w' ⟨rfl, hw'⟩; subst hw')
            | (go_at_call 19; (with_reducible refine (BB.out _ _ hcur).mono ?_); rintro e w' ⟨rfl, hw'⟩; subst hw')
            | (go_at_call 16; (with_reducible refine (DA.out _ _ hcur).mono ?_); rintro e W3 ⟨rfl, hb3⟩; have h4 := (hcur.below hb3).put ⟨x1, x2, x3, x4, x5, x6, x7, x8⟩; obtain ⟨W4, hW4⟩ : ∃ W4, W3.alloc (.cells (crC ⟨x1, x2, x3, x4, x5, x6, x7, x8⟩) 36) = W4 := ⟨_, rfl⟩; rw [hW4] at h4; simp only [crC] at hW4; have h4 := Lib.hid h4; clear hcur hb3)
            | (go_at_call 16; (with_reducible refine (DB.out _ _ h4.out.de).mono ?_); rintro e W5 ⟨rfl, hb5⟩; have h6 := (h4.out.below hb5).put ⟨z1, z2, z3, z4, z5, z6, z7, z8⟩; obtain ⟨W6, hW6⟩ : ∃ W6, W5.alloc (.cells (crC ⟨z1, z2, z3, z4, z5, z6, z7, z8⟩) 36) = W6 := ⟨_, rfl⟩; rw [hW6] at h6; simp only [crC] at hW6; obtain ⟨f0, f1, f2, f3, f4, f5, f6, f7⟩ := crcells h6.one.box; obtain ⟨s0, s1, s2, s3, s4, s5, s6, s7⟩ := crcells h6.two; simp only at f0 f1 f2 f3 f4 f5 f6 f7 s0 s1 s2 s3 s4 s5 s6 s7; obtain ⟨V2, hV2, hk2, hb2⟩ := cr_put h6.one.de.res (⟨x1, x2, x3, x4, x5, x6, x7, x8⟩); have Fin := Lib.hid (h6.one.de.bel.trans (hb2 _ h6.one.de.hr)); obtain ⟨v0, v1, v2, v3, v4, v5, v6, v7⟩ := crcells h6.one.de.res; obtain ⟨t0, t1, t2, t3, t4, t5, t6, t7⟩ := crfroz h6.one.de.res; obtain ⟨y0, y1, y2, y3, y4, y5, y6, y7⟩ := crcells hk2; simp only [zeroC] at hV2 v0 v1 v2 v3 v4 v5 v6 v7 y0 y1 y2 y3 y4 y5 y6 y7; clear hk2 hb2; clear hb5))
          refine bodyPost_ret (v := .tuple #[.agg #[.int .i64 x1, .int .i64 x2, .int .i64 x3, .float .f64 x4, .int .i64 x5, .int .i64 x6, .int .i64 x7, .int .i64 x8], .int .i64 0, .int .i64 0]) ?_ rfl ⟨rfl, Fin.out⟩
          simp [results, Try.results21]
          go_simp
        · have HA := HvA.out (by omega)
          have hgA : fA.gen = x1 := by rw [← HA]
          clear HA
          obtain rfl : CH = (0, 5) := by rw [HCC.out]; simp [hea, heb, hgA, h1]
          rw [if_neg (by decide)]
          simp only [crV, zeroC]
          clear HCC HvA HvB Hab Hbb
          have peA1 : ((eA : Int) == 0) = true := by simp; omega
          have peA2 : (eA == 0) = true := by simp; omega
          have peA3 : ((eA : Int) != 0) = false := by simp; omega
          have peA4 : (eA != 0) = false := by simp; omega
          have peB1 : ((eB : Int) == 0) = false := by simp; omega
          have peB2 : (eB == 0) = false := by simp; omega
          have peB3 : ((eB : Int) != 0) = true := by simp; omega
          have peB4 : (eB != 0) = true := by simp; omega
          have gx : (x1 == 1) = false := by simp; omega
          clear h1
          go_enter Try.func21, Try.ntmps21
          go_wp2_with (first
            | (go_at_call 19; (with_reducible refine (BA.out _ _ hcur).mono ?_); rintro e w' ⟨rfl, hw'⟩; subst hw')
            | (go_at_call 19; (with_reducible refine (BB.out _ _ hcur).mono ?_); rintro e w' ⟨rfl, hw'⟩; subst hw')
            | (go_at_call 16; (with_reducible refine (DA.out _ _ hcur).mono ?_); rintro e W3 ⟨rfl, hb3⟩; have h4 := (hcur.below hb3).put ⟨x1, x2, x3, x4, x5, x6, x7, x8⟩; obtain ⟨W4, hW4⟩ : ∃ W4, W3.alloc (.cells (crC ⟨x1, x2, x3, x4, x5, x6, x7, x8⟩) 36) = W4 := ⟨_, rfl⟩; rw [hW4] at h4; simp only [crC] at hW4; have h4 := Lib.hid h4; clear hcur hb3)
            | (go_at_call 16; (with_reducible refine (DB.out _ _ h4.out.de).mono ?_); rintro e W5 ⟨rfl, hb5⟩; have h6 := (h4.out.below hb5).put ⟨z1, z2, z3, z4, z5, z6, z7, z8⟩; obtain ⟨W6, hW6⟩ : ∃ W6, W5.alloc (.cells (crC ⟨z1, z2, z3, z4, z5, z6, z7, z8⟩) 36) = W6 := ⟨_, rfl⟩; rw [hW6] at h6; simp only [crC] at hW6; obtain ⟨f0, f1, f2, f3, f4, f5, f6, f7⟩ := crcells h6.one.box; obtain ⟨s0, s1, s2, s3, s4, s5, s6, s7⟩ := crcells h6.two; simp only at f0 f1 f2 f3 f4 f5 f6 f7 s0 s1 s2 s3 s4 s5 s6 s7; obtain ⟨V2, hV2, hk2, hb2⟩ := cr_put h6.one.de.res (zeroC); have Fin := Lib.hid (h6.one.de.bel.trans (hb2 _ h6.one.de.hr)); obtain ⟨v0, v1, v2, v3, v4, v5, v6, v7⟩ := crcells h6.one.de.res; obtain ⟨t0, t1, t2, t3, t4, t5, t6, t7⟩ := crfroz h6.one.de.res; obtain ⟨y0, y1, y2, y3, y4, y5, y6, y7⟩ := crcells hk2; simp only [zeroC] at hV2 v0 v1 v2 v3 v4 v5 v6 v7 y0 y1 y2 y3 y4 y5 y6 y7; clear hk2 hb2; clear hb5))
          refine bodyPost_ret (v := .tuple #[.agg #[.int .i64 0, .int .i64 0, .int .i64 0, .float .f64 0, .int .i64 0, .int .i64 0, .int .i64 0, .int .i64 0], .int .i64 0, .int .i64 5]) ?_ rfl ⟨rfl, Fin.out⟩
          simp [results, Try.results21]
          go_simp
      · obtain rfl : CH = (0, 5) := by rw [HCC.out]; simp [hea]
        rw [if_neg (by decide)]
        simp only [crV, zeroC]
        clear HCC HvA HvB Hab Hbb
        have peA1 : ((eA : Int) == 0) = false := by simp; omega
        have peA2 : (eA == 0) = false := by simp; omega
        have peA3 : ((eA : Int) != 0) = true := by simp; omega
        have peA4 : (eA != 0) = true := by simp; omega
        go_enter Try.func21, Try.ntmps21
        go_wp2_with (first
          | (go_at_call 19; (with_reducible refine (BA.out _ _ hcur).mono ?_); rintro e w' ⟨rfl, hw'⟩; subst hw')
          | (go_at_call 19; (with_reducible refine (BB.out _ _ hcur).mono ?_); rintro e w' ⟨rfl, hw'⟩; subst hw')
          | (go_at_call 16; (with_reducible refine (DA.out _ _ hcur).mono ?_); rintro e W3 ⟨rfl, hb3⟩; have h4 := (hcur.below hb3).put ⟨x1, x2, x3, x4, x5, x6, x7, x8⟩; obtain ⟨W4, hW4⟩ : ∃ W4, W3.alloc (.cells (crC ⟨x1, x2, x3, x4, x5, x6, x7, x8⟩) 36) = W4 := ⟨_, rfl⟩; rw [hW4] at h4; simp only [crC] at hW4; have h4 := Lib.hid h4; clear hcur hb3)
          | (go_at_call 16; (with_reducible refine (DB.out _ _ h4.out.de).mono ?_); rintro e W5 ⟨rfl, hb5⟩; have h6 := (h4.out.below hb5).put ⟨z1, z2, z3, z4, z5, z6, z7, z8⟩; obtain ⟨W6, hW6⟩ : ∃ W6, W5.alloc (.cells (crC ⟨z1, z2, z3, z4, z5, z6, z7, z8⟩) 36) = W6 := ⟨_, rfl⟩; rw [hW6] at h6; simp only [crC] at hW6; obtain ⟨f0, f1, f2, f3, f4, f5, f6, f7⟩ := crcells h6.one.box; obtain ⟨s0, s1, s2, s3, s4, s5, s6, s7⟩ := crcells h6.two; simp only at f0 f1 f2 f3 f4 f5 f6 f7 s0 s1 s2 s3 s4 s5 s6 s7; obtain ⟨V2, hV2, hk2, hb2⟩ := cr_put h6.one.de.res (zeroC); have Fin := Lib.hid (h6.one.de.bel.trans (hb2 _ h6.one.de.hr)); obtain ⟨v0, v1, v2, v3, v4, v5, v6, v7⟩ := crcells h6.one.de.res; obtain ⟨t0, t1, t2, t3, t4, t5, t6, t7⟩ := crfroz h6.one.de.res; obtain ⟨y0, y1, y2, y3, y4, y5, y6, y7⟩ := crcells hk2; simp only [zeroC] at hV2 v0 v1 v2 v3 v4 v5 v6 v7 y0 y1 y2 y3 y4 y5 y6 y7; clear hk2 hb2; clear hb5))
        refine bodyPost_ret (v := .tuple #[.agg #[.int .i64 0, .int .i64 0, .int .i64 0, .float .f64 0, .int .i64 0, .int .i64 0, .int .i64 0, .int .i64 0], .int .i64 0, .int .i64 5]) ?_ rfl ⟨rfl, Fin.out⟩
        simp [results, Try.results21]
        go_simp
  · cases bB
    · have hea : eA ≠ 0 := Hab.out rfl
      by_cases heb : eB = 0
      · by_cases h1 : z1 = 1
        · have HB := HvB.out (by omega)
          have hgB : fB.gen = z1 := by rw [← HB]
          clear HB
          obtain rfl : CH = (1, 0) := by rw [HCC.out]; simp [heb, hgB, h1]
          rw [if_pos rfl, if_neg (by decide), ← HvB.out (by omega)]
          simp only [crV]
          clear HCC HvA HvB Hab Hbb
          have peB1 : ((eB : Int) == 0) = true := by simp; omega
          have peB2 : (eB == 0) = true := by simp; omega
          have peB3 : ((eB : Int) != 0) = false := by simp; omega
          have peB4 : (eB != 0) = false := by simp; omega
          have gz : (z1 == 1) = true := by simp; omega
          clear h1
          go_enter Try.func21, Try.ntmps21
          go_wp2_with (first
            | (go_at_call 19; (with_reducible refine (BA.out _ _ hcur).mono ?_); rintro e w' ⟨rfl, hw'⟩; subst hw')
            | (go_at_call 19; (with_reducible refine (BB.out _ _ hcur).mono ?_); rintro e w' ⟨rfl, hw'⟩; subst hw')
            | (go_at_call 16; (with_reducible refine (DA.out _ _ hcur).mono ?_); rintro e W3 ⟨rfl, hb3⟩; have h4 := (hcur.below hb3).put ⟨x1, x2, x3, x4, x5, x6, x7, x8⟩; obtain ⟨W4, hW4⟩ : ∃ W4, W3.alloc (.cells (crC ⟨x1, x2, x3, x4, x5, x6, x7, x8⟩) 36) = W4 := ⟨_, rfl⟩; rw [hW4] at h4; simp only [crC] at hW4; have h4 := Lib.hid h4; clear hcur hb3)
            | (go_at_call 16; (with_reducible refine (DB.out _ _ h4.out.de).mono ?_); rintro e W5 ⟨rfl, hb5⟩; have h6 := (h4.out.below hb5).put ⟨z1, z2, z3, z4, z5, z6, z7, z8⟩; obtain ⟨W6, hW6⟩ : ∃ W6, W5.alloc (.cells (crC ⟨z1, z2, z3, z4, z5, z6, z7, z8⟩) 36) = W6 := ⟨_, rfl⟩; rw [hW6] at h6; simp only [crC] at hW6; obtain ⟨f0, f1, f2, f3, f4, f5, f6, f7⟩ := crcells h6.one.box; obtain ⟨s0, s1, s2, s3, s4, s5, s6, s7⟩ := crcells h6.two; simp only at f0 f1 f2 f3 f4 f5 f6 f7 s0 s1 s2 s3 s4 s5 s6 s7; obtain ⟨V2, hV2, hk2, hb2⟩ := cr_put h6.one.de.res (⟨z1, z2, z3, z4, z5, z6, z7, z8⟩); have Fin := Lib.hid (h6.one.de.bel.trans (hb2 _ h6.one.de.hr)); obtain ⟨v0, v1, v2, v3, v4, v5, v6, v7⟩ := crcells h6.one.de.res; obtain ⟨t0, t1, t2, t3, t4, t5, t6, t7⟩ := crfroz h6.one.de.res; obtain ⟨y0, y1, y2, y3, y4, y5, y6, y7⟩ := crcells hk2; simp only [zeroC] at hV2 v0 v1 v2 v3 v4 v5 v6 v7 y0 y1 y2 y3 y4 y5 y6 y7; clear hk2 hb2; clear hb5))
          refine bodyPost_ret (v := .tuple #[.agg #[.int .i64 z1, .int .i64 z2, .int .i64 z3, .float .f64 z4, .int .i64 z5, .int .i64 z6, .int .i64 z7, .int .i64 z8], .int .i64 1, .int .i64 0]) ?_ rfl ⟨rfl, Fin.out⟩
          simp [results, Try.results21]
          go_simp
        · have HB := HvB.out (by omega)
          have hgB : fB.gen = z1 := by rw [← HB]
          clear HB
          obtain rfl : CH = (0, 5) := by rw [HCC.out]; simp [hea, heb, hgB, h1]
          rw [if_neg (by decide)]
          simp only [crV, zeroC]
          clear HCC HvA HvB Hab Hbb
          have peB1 : ((eB : Int) == 0) = true := by simp; omega
          have peB2 : (eB == 0) = true := by simp; omega
          have peB3 : ((eB : Int) != 0) = false := by simp; omega
          have peB4 : (eB != 0) = false := by simp; omega
          have peA1 : ((eA : Int) == 0) = false := by simp; omega
          have peA2 : (eA == 0) = false := by simp; omega
          have peA3 : ((eA : Int) != 0) = true := by simp; omega
          have peA4 : (eA != 0) = true := by simp; omega
          have gz : (z1 == 1) = false := by simp; omega
          clear h1
          go_enter Try.func21, Try.ntmps21
          go_wp2_with (first
            | (go_at_call 19; (with_reducible refine (BA.out _ _ hcur).mono ?_); rintro e w' ⟨rfl, hw'⟩; subst hw')
            | (go_at_call 19; (with_reducible refine (BB.out _ _ hcur).mono ?_); rintro e w' ⟨rfl, hw'⟩; subst hw')
            | (go_at_call 16; (with_reducible refine (DA.out _ _ hcur).mono ?_); rintro e W3 ⟨rfl, hb3⟩; have h4 := (hcur.below hb3).put ⟨x1, x2, x3, x4, x5, x6, x7, x8⟩; obtain ⟨W4, hW4⟩ : ∃ W4, W3.alloc (.cells (crC ⟨x1, x2, x3, x4, x5, x6, x7, x8⟩) 36) = W4 := ⟨_, rfl⟩; rw [hW4] at h4; simp only [crC] at hW4; have h4 := Lib.hid h4; clear hcur hb3)
            | (go_at_call 16; (with_reducible refine (DB.out _ _ h4.out.de).mono ?_); rintro e W5 ⟨rfl, hb5⟩; have h6 := (h4.out.below hb5).put ⟨z1, z2, z3, z4, z5, z6, z7, z8⟩; obtain ⟨W6, hW6⟩ : ∃ W6, W5.alloc (.cells (crC ⟨z1, z2, z3, z4, z5, z6, z7, z8⟩) 36) = W6 := ⟨_, rfl⟩; rw [hW6] at h6; simp only [crC] at hW6; obtain ⟨f0, f1, f2, f3, f4, f5, f6, f7⟩ := crcells h6.one.box; obtain ⟨s0, s1, s2, s3, s4, s5, s6, s7⟩ := crcells h6.two; simp only at f0 f1 f2 f3 f4 f5 f6 f7 s0 s1 s2 s3 s4 s5 s6 s7; obtain ⟨V2, hV2, hk2, hb2⟩ := cr_put h6.one.de.res (zeroC); have Fin := Lib.hid (h6.one.de.bel.trans (hb2 _ h6.one.de.hr)); obtain ⟨v0, v1, v2, v3, v4, v5, v6, v7⟩ := crcells h6.one.de.res; obtain ⟨t0, t1, t2, t3, t4, t5, t6, t7⟩ := crfroz h6.one.de.res; obtain ⟨y0, y1, y2, y3, y4, y5, y6, y7⟩ := crcells hk2; simp only [zeroC] at hV2 v0 v1 v2 v3 v4 v5 v6 v7 y0 y1 y2 y3 y4 y5 y6 y7; clear hk2 hb2; clear hb5))
          refine bodyPost_ret (v := .tuple #[.agg #[.int .i64 0, .int .i64 0, .int .i64 0, .float .f64 0, .int .i64 0, .int .i64 0, .int .i64 0, .int .i64 0], .int .i64 0, .int .i64 5]) ?_ rfl ⟨rfl, Fin.out⟩
          simp [results, Try.results21]
          go_simp
      · obtain rfl : CH = (0, 5) := by rw [HCC.out]; simp [heb]
        rw [if_neg (by decide)]
        simp only [crV, zeroC]
        clear HCC HvA HvB Hab Hbb
        have peB1 : ((eB : Int) == 0) = false := by simp; omega
        have peB2 : (eB == 0) = false := by simp; omega
        have peB3 : ((eB : Int) != 0) = true := by simp; omega
        have peB4 : (eB != 0) = true := by simp; omega
        have peA1 : ((eA : Int) == 0) = false := by simp; omega
        have peA2 : (eA == 0) = false := by simp; omega
        have peA3 : ((eA : Int) != 0) = true := by simp; omega
        have peA4 : (eA != 0) = true := by simp; omega
        go_enter Try.func21, Try.ntmps21
        go_wp2_with (first
          | (go_at_call 19; (with_reducible refine (BA.out _ _ hcur).mono ?_); rintro e w' ⟨rfl, hw'⟩; subst hw')
          | (go_at_call 19; (with_reducible refine (BB.out _ _ hcur).mono ?_); rintro e w' ⟨rfl, hw'⟩; subst hw')
          | (go_at_call 16; (with_reducible refine (DA.out _ _ hcur).mono ?_); rintro e W3 ⟨rfl, hb3⟩; have h4 := (hcur.below hb3).put ⟨x1, x2, x3, x4, x5, x6, x7, x8⟩; obtain ⟨W4, hW4⟩ : ∃ W4, W3.alloc (.cells (crC ⟨x1, x2, x3, x4, x5, x6, x7, x8⟩) 36) = W4 := ⟨_, rfl⟩; rw [hW4] at h4; simp only [crC] at hW4; have h4 := Lib.hid h4; clear hcur hb3)
          | (go_at_call 16; (with_reducible refine (DB.out _ _ h4.out.de).mono ?_); rintro e W5 ⟨rfl, hb5⟩; have h6 := (h4.out.below hb5).put ⟨z1, z2, z3, z4, z5, z6, z7, z8⟩; obtain ⟨W6, hW6⟩ : ∃ W6, W5.alloc (.cells (crC ⟨z1, z2, z3, z4, z5, z6, z7, z8⟩) 36) = W6 := ⟨_, rfl⟩; rw [hW6] at h6; simp only [crC] at hW6; obtain ⟨f0, f1, f2, f3, f4, f5, f6, f7⟩ := crcells h6.one.box; obtain ⟨s0, s1, s2, s3, s4, s5, s6, s7⟩ := crcells h6.two; simp only at f0 f1 f2 f3 f4 f5 f6 f7 s0 s1 s2 s3 s4 s5 s6 s7; obtain ⟨V2, hV2, hk2, hb2⟩ := cr_put h6.one.de.res (zeroC); have Fin := Lib.hid (h6.one.de.bel.trans (hb2 _ h6.one.de.hr)); obtain ⟨v0, v1, v2, v3, v4, v5, v6, v7⟩ := crcells h6.one.de.res; obtain ⟨t0, t1, t2, t3, t4, t5, t6, t7⟩ := crfroz h6.one.de.res; obtain ⟨y0, y1, y2, y3, y4, y5, y6, y7⟩ := crcells hk2; simp only [zeroC] at hV2 v0 v1 v2 v3 v4 v5 v6 v7 y0 y1 y2 y3 y4 y5 y6 y7; clear hk2 hb2; clear hb5))
        refine bodyPost_ret (v := .tuple #[.agg #[.int .i64 0, .int .i64 0, .int .i64 0, .float .f64 0, .int .i64 0, .int .i64 0, .int .i64 0, .int .i64 0], .int .i64 0, .int .i64 5]) ?_ rfl ⟨rfl, Fin.out⟩
        simp [results, Try.results21]
        go_simp
    · obtain rfl : CH = (0, 8) := by rw [HCC.out]; simp []
      rw [if_neg (by decide)]
      simp only [crV, zeroC]
      clear HCC HvA HvB Hab Hbb
      obtain ⟨V2, hV2, hk2, hb2⟩ := cr_put hcur.res (zeroC)
      have Fin := Lib.hid (hcur.bel.trans (hb2 _ hcur.hr))
      obtain ⟨v0, v1, v2, v3, v4, v5, v6, v7⟩ := crcells hcur.res
      obtain ⟨t0, t1, t2, t3, t4, t5, t6, t7⟩ := crfroz hcur.res
      obtain ⟨y0, y1, y2, y3, y4, y5, y6, y7⟩ := crcells hk2
      simp only [zeroC] at hV2 v0 v1 v2 v3 v4 v5 v6 v7 y0 y1 y2 y3 y4 y5 y6 y7
      clear hk2 hb2
      go_enter Try.func21, Try.ntmps21
      go_wp2_with (first
        | (go_at_call 19; (with_reducible refine (BA.out _ _ hcur).mono ?_); rintro e w' ⟨rfl, hw'⟩; subst hw')
        | (go_at_call 19; (with_reducible refine (BB.out _ _ hcur).mono ?_); rintro e w' ⟨rfl, hw'⟩; subst hw'))
      refine bodyPost_ret (v := .tuple #[.agg #[.int .i64 0, .int .i64 0, .int .i64 0, .float .f64 0, .int .i64 0, .int .i64 0, .int .i64 0, .int .i64 0], .int .i64 0, .int .i64 8]) ?_ rfl ⟨rfl, Fin.out⟩
      simp [results, Try.results21]
      go_simp
end Go.Proofs.Ythdmghocfngfgaa
