/- The statements' own check that the program is awake holds. -/
import Derived.Test.YtajcfpldjomceaaRead
import Derived.Test.YtajcfpldjomceaaWn
import Derived.Test.YtajcfpldjomceaaStr
namespace Go.Proofs.Ytajcfpldjomceaa
open Go.RowKit Vint

theorem vint300 : vint 300 = [172, 2] := by rw [vint_high (by decide), vint_low (by decide)]
theorem num300 (l : List Nat) : num (172 :: 2 :: l) = (300, 2, 0) := by simp [num, numF]
theorem num2 (l : List Nat) : num (2 :: l) = (2, 1, 0) := by simp [num, numF]

/-- What the check's function leaves. -/
def AwQ (x y : Nat) (B : Nat) (w : World) : Prop := Blk w x 3 #[.int .i64 300] ∧ ∃ A c, Blk w y 24 #[.slice A 2 c] ∧ w.ownsRow B 5 1 (.slice A 2 c) 2 (byts [97, 98])

set_option maxHeartbeats 1000000 in
theorem awake1_any {w : World} {B R L x y : Nat} (h : Rd w B R L [172, 2, 2, 97, 98] 0) (hx : Blk w x 3 #[.int .i64 0]) (hy : Blk w y 24 #[.slice none 0 0]) (hxB : x < B) (hyB : y < B) :
    Calls Try.prog 34 #[.pointer (some ⟨R, 0, none⟩), .pointer (some ⟨x, 0, none⟩), .pointer (some ⟨y, 0, none⟩)] w fun e w' =>
      e = .returned (.tuple #[]) ∧ Rd w' B R L [] 0 ∧ Chg (FX (fun b => b = x ∨ b = y) R L) w w' ∧ AwQ x y w.heap.size w' := by
  have c1 := rnum_ok h (by rw [num300])
  rw [num300] at c1
  have C1 := Lib.hid c1
  have hB := h.bR
  have hBL := h.bL
  have hne := Blk.ne_ hx hy (by decide)
  clear c1 h
  go_enter Try.func34, Try.ntmps34
  go_wp2_with fail
  refine C1.out.mono ?_
  rintro e w1 ⟨rfl, h1, hc1⟩
  simp only [List.drop_succ_cons, List.drop_zero] at h1
  have hx1 := hx.keep (hc1.block x hx.lt (by rintro (h | h) <;> omega))
  have hy1 := hy.keep (hc1.block y hy.lt (by rintro (h | h) <;> omega))
  have c2 := rbytes_ok h1 9 (by unfold rdE; rw [num2]; simp)
  rw [num2] at c2
  have C2 := Lib.hid c2
  have Hx1 := Lib.hid hx1
  have Hy1 := Lib.hid hy1
  have Hc1 := Lib.hid hc1
  clear c2 hx1 hy1 h1 hc1
  go_wp2_with fail
  refine C2.out.mono ?_
  rintro e w2 ⟨A2, c2, rfl, hown, h2, hc2⟩
  have hx2 := Hx1.out.keep (hc2.block x Hx1.out.lt (by rintro (h | h) <;> omega))
  have hy2 := Hy1.out.keep (hc2.block y Hy1.out.lt (by rintro (h | h) <;> omega))
  have q0 : w2.cell? ⟨x, 0, none⟩ = some (.int .i64 0) := hx2.cell 0
  have f0 := hx2.frozen 0
  have hy3 := hy2.far (p := ⟨x, 0, none⟩) (by simpa using hne) (.int .i64 300)
  have q1 : (w2.setCell ⟨x, 0, none⟩ (.int .i64 300)).cell? ⟨y, 0, none⟩ = some (.slice none 0 0) := hy3.cell 0
  have f1 := hy3.frozen 0
  have Ho := Lib.hid hown
  have Hx2 := Lib.hid hx2
  have Hy3 := Lib.hid hy3
  have H2 := Lib.hid h2
  have Hc2 := Lib.hid hc2
  clear hown hx2 hy3 hy2 h2 hc2
  go_wp2_with fail
  refine bodyPost_end (results_none rfl _ _ _) rfl ?_
  have hcx : Chg (fun b => b = x ∨ b = y) w2 ((w2.setCell ⟨x, 0, none⟩ (.int .i64 300)).setCell ⟨y, 0, none⟩ (.slice A2 2 c2)) := ((Chg.refl (fun b => b = x ∨ b = y) w2).setCell (p := ⟨x, 0, none⟩) (.inl (.inl rfl)) _).setCell (p := ⟨y, 0, none⟩) (.inl (.inr rfl)) _
  refine ⟨rfl, H2.out.keep hcx (fun b hb => by rcases hb with h | h <;> omega), ((Hc1.out.mono fun _ h => .inr h).then_ (Hc2.out.mono fun _ h => .inr h)).then_ (hcx.mono fun _ h => .inl h), ?_, A2, c2, ?_, ?_⟩
  · have := Hx2.out.set_ 0 (.int .i64 300)
    exact Blk.far (p := ⟨y, 0, none⟩) (by simpa using this) (by simpa using hne.symm) _
  · have := Hy3.out.set_ 0 (.slice A2 2 c2)
    simpa using this
  · have hw1 := Hc1.out.size
    refine own_keep (World.ownsRow_base Ho.out hw1) fun b hb hlt => hcx.block b hlt ?_
    have hx1 := Hx1.out.lt
    have hy1 := Hy1.out.lt
    have hb1 : w1.heap.size ≤ b := (Ho.out.lt b hb).1
    rintro (h | h) <;> omega

theorem bstr_ab : bstr [97, 98] = ⟨#[97, 98]⟩ := by kernel_rfl
theorem bstr_out : bstr [172, 2, 2, 97, 98] = ⟨#[172, 2, 2, 97, 98]⟩ := by kernel_rfl
def AwR (x y : Nat) (w : World) (e : Ending) (w' : World) : Prop :=
  e = .returned (.int .i64 0) ∧ Blk w' x 3 #[.int .i64 300] ∧ (∃ A c, Blk w' y 24 #[.slice A 2 c] ∧ Sl w' w'.heap.size A (byts [97, 98])) ∧ Chg (fun b => b = x ∨ b = y) w w'
theorem awake_read {w : World} {x y B : Nat} {A : Option Addr} {c : Nat} (hx : Blk w x 3 #[.int .i64 0]) (hy : Blk w y 24 #[.slice none 0 0]) (hsl : Sl w B A (byts [172, 2, 2, 97, 98])) (hB : B ≤ w.heap.size) (hc : 5 ≤ c) (hA : A = none → c = 0) :
    Calls Try.prog 16 #[.slice A 5 c, .func (.func 34) #[] #[.pointer (some ⟨x, 0, none⟩), .pointer (some ⟨y, 0, none⟩)]] w (AwR x y w) := by
  have hxl := hx.lt
  have hyl := hy.lt
  refine (read_ret A c [172, 2, 2, 97, 98] w hsl hB hc hA (by decide) (by decide) 34 #[.pointer (some ⟨x, 0, none⟩), .pointer (some ⟨y, 0, none⟩)] (fun a w => by kernel_rfl) (fun b => b = x ∨ b = y) (fun b hb => by rcases hb with h | h <;> omega) [] (AwQ x y (w.heap.size + 1)) ?_ false 0 rfl rfl).mono ?_
  · intro w1 R hr hb
    have hs := hr.last.lt
    refine (awake1_any hr (hx.keep (hb.block x hx.lt)) (hy.keep (hb.block y hy.lt)) (by omega) (by omega)).mono ?_
    rintro e w2 ⟨rfl, h1, h2, h3, A2, c2, h4, h5⟩
    exact ⟨rfl, h1, h2, h3, A2, c2, h4, World.ownsRow_base h5 (by omega)⟩
  · rintro e w' ⟨rfl, w2, ⟨h3, A2, c2, h4, h5⟩, hk, hch⟩
    refine ⟨rfl, h3.keep (hk.block x h3.lt (by omega)), ⟨A2, c2, h4.keep (hk.block y h4.lt (by omega)), Sl.of_own (own_keep h5 fun b hb hlt => hk.block b hlt ?_)⟩, hch⟩
    have := (h5.lt b hb).1
    omega
set_option maxRecDepth 4000 in
set_option maxHeartbeats 2000000 in
theorem cawake (w : World) : Calls Try.prog 9 #[] w fun e w' => e = .returned (.bool true) ∧ Below w.heap.size w w' := by
  have kc := @run_const
  have hmf : ∀ (fn : Fn) (first cap : Array Value) (w : World), (Instr.makeFunc fn first cap).run Try.prog w = .ok (.func fn first cap) w := fun _ _ _ _ => rfl
  go_enter Try.func9, Try.ntmps9
  have n1 := wn_num (wn_new w (Nat.le_refl _)) 300 (by decide) (by decide)
  rw [vint300] at n1
  have N1 := Lib.hid n1
  clear n1
  go_wp2_with fail
  refine N1.out.mono ?_
  rintro e w1 ⟨rfl, h1, o1⟩
  have b1 : Below w.heap.size w w1 := ((Below.refl _ _).alloc (Nat.le_refl _) _).trans (o1.below (by simp))
  have h2 := h1.alloc (.cells #[.int .u8 97, .int .u8 98] 5 (2, 3))
  have hsl : Sl (w1.alloc (.cells #[.int .u8 97, .int .u8 98] 5 (2, 3))) (w1.heap.size + 1) (some ⟨w1.heap.size, 0, none⟩) (byts [97, 98]) := .inr ⟨w1.heap.size, 0, rfl, by omega, fun i hi => by
    rw [Nat.zero_add, cell_fresh rfl]
    have : i < 2 := by simpa [byts] using hi
    have : i = 0 ∨ i = 1 := by omega
    rcases this with rfl | rfl <;> rfl⟩
  have n2 := wn_bytes h2 (by decide) (A := some ⟨w1.heap.size, 0, none⟩) (cap := 2) (b := [97, 98]) hsl (by simp) (fun _ i o e => by
    injection e with e
    injection e with e _
    subst e
    exact .inr (wn_fresh h1 _)) (by decide) (by simp) (by decide)
  have N2 := Lib.hid n2
  have B1 := Lib.hid b1
  have hz1 := b1.size
  clear h1 o1 h2 hsl n2 b1 N1
  go_wp2_with fail
  refine N2.out.mono ?_
  rintro e w2 ⟨rfl, h2, o2⟩
  have e2 : [] ++ [172, 2] ++ vint [97, 98].length ++ [97, 98] = [172, 2, 2, 97, 98] := by rw [show [97, 98].length = 2 from rfl, vint_low (by decide)]; rfl
  rw [e2] at h2
  have b2 : Below w.heap.size w w2 := (B1.out.alloc hz1 _).trans (o2.below (by simp; omega))
  have hz2 := b2.size
  have h3 := (h2.alloc (.cells #[.int .i64 0] 3)).alloc (.cells #[.slice none 0 0] 24)
  have b3 : Below w.heap.size w ((w2.alloc (.cells #[.int .i64 0] 3)).alloc (.cells #[.slice none 0 0] 24)) := (b2.alloc hz2 _).alloc (by simp; omega) _
  have hx3 : Blk ((w2.alloc (.cells #[.int .i64 0] 3)).alloc (.cells #[.slice none 0 0] 24)) w2.heap.size 3 #[.int .i64 0] := (Blk.new _ _ _).alloc _
  have hy3 : Blk ((w2.alloc (.cells #[.int .i64 0] 3)).alloc (.cells #[.slice none 0 0] 24)) (w2.heap.size + 1) 24 #[.slice none 0 0] := by
    have := Blk.new (w2.alloc (.cells #[.int .i64 0] 3)) 24 #[.slice none 0 0]
    simpa using this
  have N3 := Lib.hid (wn_out h3 (by decide))
  have H3 := Lib.hid h3
  have B3 := Lib.hid b3
  have Hx := Lib.hid hx3
  have Hy := Lib.hid hy3
  clear h2 o2 e2 b2 h3 b3 hx3 hy3 N2 B1 kc
  go_wp2_with fail
  generalize hW : (w2.alloc (.cells #[.int .i64 0] 3)).alloc (.cells #[.slice none 0 0] 24) = W at *
  clear hW
  have hy0 : w.heap.size ≤ w2.heap.size + 1 := by omega
  generalize w2.heap.size + 1 = y at *
  generalize w2.heap.size = x at *
  refine N3.out.mono ?_
  rintro e w4 ⟨A4, c4, rfl, hown, b4⟩
  have R4 := Lib.hid (awake_read (Hx.out.keep (b4.block x Hx.out.lt)) (Hy.out.keep (b4.block y Hy.out.lt)) (Sl.of_own hown) (Nat.le_refl _) (own_len hown) (own_none hown))
  have H4 := Lib.hid (H3.out.below b4)
  have Hx4 := Lib.hid (Hx.out.keep (b4.block x Hx.out.lt))
  have Hy4 := Lib.hid (Hy.out.keep (b4.block y Hy.out.lt))
  have B4 := Lib.hid (B3.out.trans (b4.mono B3.out.size))
  have hxw := Hx.out.lt
  have hyw := Hy.out.lt
  clear hown b4 N3 H3
  go_wp2_with fail
  refine R4.out.mono ?_
  rintro e w5 ⟨rfl, hx5, ⟨A5, c5, hy5, hsl5⟩, hc5⟩
  have h5 : Wn w5 w.heap.size w.heap.size [172, 2, 2, 97, 98] := H4.out.chg hc5 fun b hb => by
    rcases hb with rfl | rfl
    · exact ⟨_, _, Hx4.out, by decide, by decide⟩
    · exact ⟨_, _, Hy4.out, by decide, by decide⟩
  have b5 : Below w.heap.size w w5 := B4.out.trans (hc5.below B4.out.size fun b hb => by rcases hb with rfl | rfl <;> omega)
  have cx := cell_at hx5
  have cy := cell_at hy5
  have k1 := conv_b (cap := c5) hsl5
  rw [show [97, 98].length = 2 from rfl, bstr_ab] at k1
  have N5 := Lib.hid (wn_out h5 (by decide))
  have B5 := Lib.hid b5
  clear hx5 hc5 hy5 hsl5 h5 b5 H4 B4 R4
  go_wp2_with fail
  refine N5.out.mono ?_
  rintro e w6 ⟨A6, c6, rfl, hown6, b6⟩
  have k2 := conv_b (cap := c6) (Sl.of_own hown6)
  rw [bstr_out, show [172, 2, 2, 97, 98].length = 5 from rfl] at k2
  have B6 := Lib.hid (B5.out.trans (b6.mono B5.out.size))
  clear hown6 b6
  go_wp2_with fail
  go_ret
  exact ⟨rfl, B6.out⟩
end Go.Proofs.Ytajcfpldjomceaa
