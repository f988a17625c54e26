/- The program's putBits at four and at eight bytes of a block, and putNumber. -/
import Derived.Test.YthdmghocfngfgaaCn
import Derived.Laws.CopyOwn
namespace Go.Proofs.Ythdmghocfngfgaa
open Go.RowKit Crc

theorem Cn.le8_eq (x : Nat) : Cn.le8 x = [x % 256, x / 256 % 256, x / 65536 % 256, x / 16777216 % 256, x / 4294967296 % 256, x / 1099511627776 % 256, x / 281474976710656 % 256, x / 72057594037927936 % 256] := by
  show [x % 256, x / 256 % 256, x / 65536 % 256, x / 16777216 % 256, x / 4294967296 % 256, x / 4294967296 / 256 % 256, x / 4294967296 / 65536 % 256, x / 4294967296 / 16777216 % 256] = _
  rw [Nat.div_div_eq_div_mul, Nat.div_div_eq_div_mul, Nat.div_div_eq_div_mul]

theorem setb4 (p r : List Nat) (q0 q1 q2 q3 v0 v1 v2 v3 : Nat) : (((((p ++ ([q0, q1, q2, q3] ++ r)).set p.length v0).set (p.length + 1) v1).set (p.length + 2) v2).set (p.length + 3) v3) = p ++ ([v0, v1, v2, v3] ++ r) := by
  simp
theorem atb4 (p r : List Nat) (q0 q1 q2 q3 : Nat) : (p ++ ([q0, q1, q2, q3] ++ r)).length = p.length + 4 + r.length := by simp; omega

set_option maxHeartbeats 8000000 in
theorem putbits4_any (g k c : Nat) (p r : List Nat) (q0 q1 q2 q3 : Nat) (hk : k = p.length) (x : Nat) (hx : x < 4294967296) {w : World} (hb : ByBlk w g (p ++ ([q0, q1, q2, q3] ++ r))) :
    Calls Try.prog 26 #[.slice (some ⟨g, k, none⟩) 4 c, .int .u64 (x : Int)] w fun e w' => e = .returned (.tuple #[]) ∧ ByBlk w' g (p ++ (le4 x ++ r)) ∧ Chg (· = g) w w' := by
  have hlen := atb4 p r q0 q1 q2 q3
  generalize hL0 : p ++ ([q0, q1, q2, q3] ++ r) = L0 at *
  have HL0 := Lib.hid hL0
  have HC0 := Lib.hid (Chg.refl (· = g) w)
  have HB0 := Lib.hid hb
  have Hlen := Lib.hid hlen
  have HK := Lib.hid hk
  clear hb hL0 hlen hk
  go_enter Try.func26, Try.ntmps26
  go_wp2_with fail
  refine wp_loop_rounds 5 ?_
  have c0 := byblk_cell HB0.out (i := k) (by have := Hlen.out; have := HK.out; omega)
  have f0 := Blk.frozen HB0.out (k)
  have HB1 := Lib.hid (byblk_set HB0.out (k) (x % 256) (v := .int .u8 ((x : Int) % 256)) (by simp))
  have HC1 := Lib.hid (HC0.out.setCell (p := ⟨g, k, none⟩) (.inl rfl) (.int .u8 ((x : Int) % 256)))
  clear HB0 HC0
  rw [rounds_succ]
  go_wp2_with fail
  clear c0 f0
  generalize w.setCell ⟨g, k, none⟩ (.int .u8 ((x : Int) % 256)) = w1 at *
  have c1 := byblk_cell HB1.out (i := k + 1) (by have := Hlen.out; have := HK.out; rw [List.length_set]; omega)
  have f1 := Blk.frozen HB1.out (k + 1)
  have HB2 := Lib.hid (byblk_set HB1.out (k + 1) (x / 256 % 256) (v := .int .u8 ((x : Int) / 256 % 256)) (by simp))
  have HC2 := Lib.hid (HC1.out.setCell (p := ⟨g, k + 1, none⟩) (.inl rfl) (.int .u8 ((x : Int) / 256 % 256)))
  clear HB1 HC1
  rw [rounds_succ]
  go_wp2_with fail
  clear c1 f1
  generalize w1.setCell ⟨g, k + 1, none⟩ (.int .u8 ((x : Int) / 256 % 256)) = w2 at *
  have c2 := byblk_cell HB2.out (i := k + 2) (by have := Hlen.out; have := HK.out; rw [List.length_set, List.length_set]; omega)
  have f2 := Blk.frozen HB2.out (k + 2)
  have HB3 := Lib.hid (byblk_set HB2.out (k + 2) (x / 65536 % 256) (v := .int .u8 ((x : Int) / 65536 % 256)) (by simp))
  have HC3 := Lib.hid (HC2.out.setCell (p := ⟨g, k + 2, none⟩) (.inl rfl) (.int .u8 ((x : Int) / 65536 % 256)))
  clear HB2 HC2
  rw [rounds_succ]
  go_wp2_with fail
  clear c2 f2
  generalize w2.setCell ⟨g, k + 2, none⟩ (.int .u8 ((x : Int) / 65536 % 256)) = w3 at *
  have c3 := byblk_cell HB3.out (i := k + 3) (by have := Hlen.out; have := HK.out; rw [List.length_set, List.length_set, List.length_set]; omega)
  have f3 := Blk.frozen HB3.out (k + 3)
  have HB4 := Lib.hid (byblk_set HB3.out (k + 3) (x / 16777216 % 256) (v := .int .u8 ((x : Int) / 16777216)) (by congr 1; omega))
  have HC4 := Lib.hid (HC3.out.setCell (p := ⟨g, k + 3, none⟩) (.inl rfl) (.int .u8 ((x : Int) / 16777216)))
  clear HB3 HC3
  rw [rounds_succ]
  go_wp2_with fail
  clear c3 f3
  generalize w3.setCell ⟨g, k + 3, none⟩ (.int .u8 ((x : Int) / 16777216)) = w4 at *
  rw [rounds_succ]
  go_wp2_with fail
  refine bodyPost_end (results_none rfl _ _ _) rfl ?_
  refine ⟨rfl, ?_, HC4.out⟩
  have h4 := HB4.out
  rw [← HL0.out] at h4
  have e : (((((p ++ ([q0, q1, q2, q3] ++ r)).set k (x % 256)).set (k + 1) (x / 256 % 256)).set (k + 2) (x / 65536 % 256)).set (k + 3) (x / 16777216 % 256)) = p ++ (le4 x ++ r) := by rw [HK.out, setb4]; rfl
  rwa [e] at h4

theorem setb8 (p r : List Nat) (q0 q1 q2 q3 q4 q5 q6 q7 v0 v1 v2 v3 v4 v5 v6 v7 : Nat) : (((((((((p ++ ([q0, q1, q2, q3, q4, q5, q6, q7] ++ r)).set p.length v0).set (p.length + 1) v1).set (p.length + 2) v2).set (p.length + 3) v3).set (p.length + 4) v4).set (p.length + 5) v5).set (p.length + 6) v6).set (p.length + 7) v7) = p ++ ([v0, v1, v2, v3, v4, v5, v6, v7] ++ r) := by
  simp
theorem atb8 (p r : List Nat) (q0 q1 q2 q3 q4 q5 q6 q7 : Nat) : (p ++ ([q0, q1, q2, q3, q4, q5, q6, q7] ++ r)).length = p.length + 8 + r.length := by simp; omega

set_option maxHeartbeats 8000000 in
theorem putbits8_any (g k c : Nat) (p r : List Nat) (q0 q1 q2 q3 q4 q5 q6 q7 : Nat) (hk : k = p.length) (x : Nat) (hx : x < 18446744073709551616) {w : World} (hb : ByBlk w g (p ++ ([q0, q1, q2, q3, q4, q5, q6, q7] ++ r))) :
    Calls Try.prog 26 #[.slice (some ⟨g, k, none⟩) 8 c, .int .u64 (x : Int)] w fun e w' => e = .returned (.tuple #[]) ∧ ByBlk w' g (p ++ (Cn.le8 x ++ r)) ∧ Chg (· = g) w w' := by
  have hlen := atb8 p r q0 q1 q2 q3 q4 q5 q6 q7
  generalize hL0 : p ++ ([q0, q1, q2, q3, q4, q5, q6, q7] ++ r) = L0 at *
  have HL0 := Lib.hid hL0
  have HC0 := Lib.hid (Chg.refl (· = g) w)
  have HB0 := Lib.hid hb
  have Hlen := Lib.hid hlen
  have HK := Lib.hid hk
  clear hb hL0 hlen hk
  go_enter Try.func26, Try.ntmps26
  go_wp2_with fail
  refine wp_loop_rounds 9 ?_
  have c0 := byblk_cell HB0.out (i := k) (by have := Hlen.out; have := HK.out; omega)
  have f0 := Blk.frozen HB0.out (k)
  have HB1 := Lib.hid (byblk_set HB0.out (k) (x % 256) (v := .int .u8 ((x : Int) % 256)) (by simp))
  have HC1 := Lib.hid (HC0.out.setCell (p := ⟨g, k, none⟩) (.inl rfl) (.int .u8 ((x : Int) % 256)))
  clear HB0 HC0
  rw [rounds_succ]
  go_wp2_with fail
  clear c0 f0
  generalize w.setCell ⟨g, k, none⟩ (.int .u8 ((x : Int) % 256)) = w1 at *
  have c1 := byblk_cell HB1.out (i := k + 1) (by have := Hlen.out; have := HK.out; rw [List.length_set]; omega)
  have f1 := Blk.frozen HB1.out (k + 1)
  have HB2 := Lib.hid (byblk_set HB1.out (k + 1) (x / 256 % 256) (v := .int .u8 ((x : Int) / 256 % 256)) (by simp))
  have HC2 := Lib.hid (HC1.out.setCell (p := ⟨g, k + 1, none⟩) (.inl rfl) (.int .u8 ((x : Int) / 256 % 256)))
  clear HB1 HC1
  rw [rounds_succ]
  go_wp2_with fail
  clear c1 f1
  generalize w1.setCell ⟨g, k + 1, none⟩ (.int .u8 ((x : Int) / 256 % 256)) = w2 at *
  have c2 := byblk_cell HB2.out (i := k + 2) (by have := Hlen.out; have := HK.out; rw [List.length_set, List.length_set]; omega)
  have f2 := Blk.frozen HB2.out (k + 2)
  have HB3 := Lib.hid (byblk_set HB2.out (k + 2) (x / 65536 % 256) (v := .int .u8 ((x : Int) / 65536 % 256)) (by simp))
  have HC3 := Lib.hid (HC2.out.setCell (p := ⟨g, k + 2, none⟩) (.inl rfl) (.int .u8 ((x : Int) / 65536 % 256)))
  clear HB2 HC2
  rw [rounds_succ]
  go_wp2_with fail
  clear c2 f2
  generalize w2.setCell ⟨g, k + 2, none⟩ (.int .u8 ((x : Int) / 65536 % 256)) = w3 at *
  have c3 := byblk_cell HB3.out (i := k + 3) (by have := Hlen.out; have := HK.out; rw [List.length_set, List.length_set, List.length_set]; omega)
  have f3 := Blk.frozen HB3.out (k + 3)
  have HB4 := Lib.hid (byblk_set HB3.out (k + 3) (x / 16777216 % 256) (v := .int .u8 ((x : Int) / 16777216 % 256)) (by simp))
  have HC4 := Lib.hid (HC3.out.setCell (p := ⟨g, k + 3, none⟩) (.inl rfl) (.int .u8 ((x : Int) / 16777216 % 256)))
  clear HB3 HC3
  rw [rounds_succ]
  go_wp2_with fail
  clear c3 f3
  generalize w3.setCell ⟨g, k + 3, none⟩ (.int .u8 ((x : Int) / 16777216 % 256)) = w4 at *
  have c4 := byblk_cell HB4.out (i := k + 4) (by have := Hlen.out; have := HK.out; rw [List.length_set, List.length_set, List.length_set, List.length_set]; omega)
  have f4 := Blk.frozen HB4.out (k + 4)
  have HB5 := Lib.hid (byblk_set HB4.out (k + 4) (x / 4294967296 % 256) (v := .int .u8 ((x : Int) / 4294967296 % 256)) (by simp))
  have HC5 := Lib.hid (HC4.out.setCell (p := ⟨g, k + 4, none⟩) (.inl rfl) (.int .u8 ((x : Int) / 4294967296 % 256)))
  clear HB4 HC4
  rw [rounds_succ]
  go_wp2_with fail
  clear c4 f4
  generalize w4.setCell ⟨g, k + 4, none⟩ (.int .u8 ((x : Int) / 4294967296 % 256)) = w5 at *
  have c5 := byblk_cell HB5.out (i := k + 5) (by have := Hlen.out; have := HK.out; rw [List.length_set, List.length_set, List.length_set, List.length_set, List.length_set]; omega)
  have f5 := Blk.frozen HB5.out (k + 5)
  have HB6 := Lib.hid (byblk_set HB5.out (k + 5) (x / 1099511627776 % 256) (v := .int .u8 ((x : Int) / 1099511627776 % 256)) (by simp))
  have HC6 := Lib.hid (HC5.out.setCell (p := ⟨g, k + 5, none⟩) (.inl rfl) (.int .u8 ((x : Int) / 1099511627776 % 256)))
  clear HB5 HC5
  rw [rounds_succ]
  go_wp2_with fail
  clear c5 f5
  generalize w5.setCell ⟨g, k + 5, none⟩ (.int .u8 ((x : Int) / 1099511627776 % 256)) = w6 at *
  have c6 := byblk_cell HB6.out (i := k + 6) (by have := Hlen.out; have := HK.out; rw [List.length_set, List.length_set, List.length_set, List.length_set, List.length_set, List.length_set]; omega)
  have f6 := Blk.frozen HB6.out (k + 6)
  have HB7 := Lib.hid (byblk_set HB6.out (k + 6) (x / 281474976710656 % 256) (v := .int .u8 ((x : Int) / 281474976710656 % 256)) (by simp))
  have HC7 := Lib.hid (HC6.out.setCell (p := ⟨g, k + 6, none⟩) (.inl rfl) (.int .u8 ((x : Int) / 281474976710656 % 256)))
  clear HB6 HC6
  rw [rounds_succ]
  go_wp2_with fail
  clear c6 f6
  generalize w6.setCell ⟨g, k + 6, none⟩ (.int .u8 ((x : Int) / 281474976710656 % 256)) = w7 at *
  have c7 := byblk_cell HB7.out (i := k + 7) (by have := Hlen.out; have := HK.out; rw [List.length_set, List.length_set, List.length_set, List.length_set, List.length_set, List.length_set, List.length_set]; omega)
  have f7 := Blk.frozen HB7.out (k + 7)
  have HB8 := Lib.hid (byblk_set HB7.out (k + 7) (x / 72057594037927936 % 256) (v := .int .u8 ((x : Int) / 72057594037927936)) (by congr 1; omega))
  have HC8 := Lib.hid (HC7.out.setCell (p := ⟨g, k + 7, none⟩) (.inl rfl) (.int .u8 ((x : Int) / 72057594037927936)))
  clear HB7 HC7
  rw [rounds_succ]
  go_wp2_with fail
  clear c7 f7
  generalize w7.setCell ⟨g, k + 7, none⟩ (.int .u8 ((x : Int) / 72057594037927936)) = w8 at *
  rw [rounds_succ]
  go_wp2_with fail
  refine bodyPost_end (results_none rfl _ _ _) rfl ?_
  refine ⟨rfl, ?_, HC8.out⟩
  have h4 := HB8.out
  rw [← HL0.out] at h4
  have e : (((((((((p ++ ([q0, q1, q2, q3, q4, q5, q6, q7] ++ r)).set k (x % 256)).set (k + 1) (x / 256 % 256)).set (k + 2) (x / 65536 % 256)).set (k + 3) (x / 16777216 % 256)).set (k + 4) (x / 4294967296 % 256)).set (k + 5) (x / 1099511627776 % 256)).set (k + 6) (x / 281474976710656 % 256)).set (k + 7) (x / 72057594037927936 % 256)) = p ++ (Cn.le8 x ++ r) := by rw [HK.out, setb8]; show p ++ ([x % 256, x / 256 % 256, x / 65536 % 256, x / 16777216 % 256, x / 4294967296 % 256, x / 1099511627776 % 256, x / 281474976710656 % 256, x / 72057594037927936 % 256] ++ r) = _; rw [Cn.le8_eq]
  rwa [e] at h4

end Go.Proofs.Ythdmghocfngfgaa
