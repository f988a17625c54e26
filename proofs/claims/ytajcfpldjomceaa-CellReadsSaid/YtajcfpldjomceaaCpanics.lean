/- CellPanics returns true for all arguments; the memory that was there stays as it is. -/
import Derived.Test.YtajcfpldjomceaaCawake
namespace Go.Proofs.Ytajcfpldjomceaa
open Go.RowKit Vint

theorem and_u32 (n : Nat) (hn : n < 4294967296) : bits BinOp.and IntKind.u32 (n : Int) 268435455 = ((n % 268435456 : Nat) : Int) := by
  rw [show (268435455 : Int) = ((268435455 : Nat) : Int) from rfl, u32_and_nat _ _ hn (by decide), show (268435455 : Nat) = 2 ^ 28 - 1 from rfl, Nat.and_two_pow_sub_one_eq_mod]
theorem num_whole {m : Nat} (h : m < 268435456) : num (vint m) = (m, (vint m).length, 0) := by have := num_vint [] h; rwa [List.append_nil] at this

set_option maxHeartbeats 1000000 in
theorem pan12_any {w : World} {B R L x t m : Nat} {s : ByteArray} (h : Rd w B R L (vint m) 0) (hm : m < 268435456) (hx : Blk w x 3 #[.int .i64 (-1)]) (ht : Blk w t 9 #[.string s]) (hxB : x < B) (htB : t < B) :
    Calls Try.prog 27 #[.pointer (some ⟨R, 0, none⟩), .pointer (some ⟨x, 0, none⟩), .pointer (some ⟨t, 0, none⟩)] w fun e w' =>
      e = .panicked [{ v := .iface 9 (.string s), recovered := false }] ∧ Rd w' B R L [] 0 ∧ Chg (FX (fun b => b = x) R L) w w' ∧ Blk w' x 3 #[.int .i64 (m : Int)] := by
  have c1 := rnum_ok h (by rw [num_whole hm])
  rw [num_whole hm] at c1
  have C1 := Lib.hid c1
  have hB := h.bR
  have hBL := h.bL
  have hne := Blk.ne_ hx ht (by decide)
  clear c1 h
  go_enter Try.func27, Try.ntmps27
  go_wp2_with fail
  refine C1.out.mono ?_
  rintro e w1 ⟨rfl, h1, hc1⟩
  rw [List.drop_length] at h1
  have hx1 := hx.keep (hc1.block x hx.lt (by rintro (h | h) <;> omega))
  have ht1 := ht.keep (hc1.block t ht.lt (by rintro (h | h) <;> omega))
  have cx := cell_at hx1
  have fx := hx1.frozen 0
  have ht2 := ht1.far (p := ⟨x, 0, none⟩) (by simpa using hne) (.int .i64 (m : Int))
  have ct := cell_at ht2
  have H1 := Lib.hid h1
  have Hc1 := Lib.hid hc1
  have Hx1 := Lib.hid hx1
  clear h1 hc1 hx1 ht1 ht2
  go_wp2_with fail
  have hcx : Chg (fun b => b = x) w1 (w1.setCell ⟨x, 0, none⟩ (.int .i64 (m : Int))) := (Chg.refl (fun b => b = x) w1).setCell (p := ⟨x, 0, none⟩) (.inl rfl) _
  refine ⟨rfl, rfl, H1.out.keep hcx (fun b hb => by omega), (Hc1.out.mono fun _ h => .inr h).then_ (hcx.mono fun _ h => .inl h), ?_⟩
  have := Hx1.out.set_ 0 (.int .i64 (m : Int))
  simpa using this

theorem pan11_any (g : Nat) (v x : Value) (w : World) (hg : w.cell? ⟨g, 0, none⟩ = some x) (hz : w.frozen? ⟨g, 0, none⟩ = false) (s : ByteArray) (hv : v = .iface 9 (.string s)) :
    CallsD Try.prog 26 #[.pointer (some ⟨g, 0, none⟩)] (.panicking [{ v := v, recovered := false }]) w fun e u' w' =>
      e = .returned (.tuple #[]) ∧ u' = .panicking [{ v := v, recovered := true }] ∧ w' = w.setCell ⟨g, 0, none⟩ v := by
  subst hv
  refine callsD_of_wpS Try.func26 rfl fun c₀ cs hu => ?_
  apply wpS_region
  simp [wpOpsS, go_sem, recoverD, hu, Try.ntmps26, hg, hz, bodyPostS, results, Try.results26]

/-- What CellPanics' own function leaves. -/
def PanQ (x g m : Nat) (s : ByteArray) (w : World) (e : Ending) (w' : World) : Prop :=
  e = .returned (.tuple #[]) ∧ Blk w' x 3 #[.int .i64 (m : Int)] ∧ Blk w' g 20 #[.iface 9 (.string s)] ∧ Chg (fun b => b = x ∨ b = g) w w'
set_option maxHeartbeats 2000000 in
theorem pan1_any {w : World} {B gw x t g m : Nat} {s : ByteArray} (h : Wn w B gw (vint m)) (hm : m < 268435456) (hx : Blk w x 3 #[.int .i64 (-1)]) (ht : Blk w t 9 #[.string s]) (hg : Blk w g 20 #[.nilIface]) :
    Calls Try.prog 25 #[.pointer (some ⟨g, 0, none⟩), .pointer (some ⟨gw, 0, none⟩), .pointer (some ⟨x, 0, none⟩), .pointer (some ⟨t, 0, none⟩)] w (PanQ x g m s w) := by
  have hmf : ∀ (fn : Fn) (first cap : Array Value) (w : World), (Instr.makeFunc fn first cap).run Try.prog w = .ok (.func fn first cap) w := fun _ _ _ _ => rfl
  have hvl := vint_len hm
  have N := Lib.hid (wn_out h (by omega))
  go_enter_defers Try.func25, Try.ntmps25
  go_wp2_with fail
  refine N.out.mono ?_
  rintro e w1 ⟨A1, c1, rfl, hown, b1⟩
  have hx1 := hx.keep (b1.block x hx.lt)
  have ht1 := ht.keep (b1.block t ht.lt)
  have hg1 := hg.keep (b1.block g hg.lt)
  have hlx := hx1.lt
  have hlt := ht1.lt
  have R := Lib.hid (read_own A1 c1 (vint m) w1 (Sl.of_own hown) (Nat.le_refl _) (own_len hown) (own_none hown) (vint_byte m) (by omega) 27 #[.pointer (some ⟨x, 0, none⟩), .pointer (some ⟨t, 0, none⟩)] (fun a w => by kernel_rfl) (fun b => b = x) [] (.iface 9 (.string s)) (fun w => Blk w x 3 #[.int .i64 (m : Int)]) (fun w2 R hr hb => by
    have hs := hr.last.lt
    exact pan12_any hr hm (hx1.keep (hb.block x hx1.lt)) (ht1.keep (hb.block t ht1.lt)) (by omega) (by omega)))
  have Hg1 := Lib.hid hg1
  have B1 := Lib.hid b1
  have hgx := Blk.ne_ hg1 hx1 (by decide)
  clear hown b1 hx1 ht1 hg1
  go_wp2_with fail
  refine R.out.mono ?_
  rintro e w2 ⟨rfl, w3, hx3, hk, hc⟩
  have hg2 := Hg1.out.keep (hc.block g Hg1.out.lt (by omega))
  have hx2 := hx3.keep (hk.block x hx3.lt (by omega))
  have cg := cell_at hg2
  have fg := hg2.frozen 0
  go_wp2_with fail
  refine leaves_cons (f := 26) (args := #[.pointer (some ⟨g, 0, none⟩)]) (by simp) (by simp [go_sem]) ?_
  refine (pan11_any g _ _ w2 cg fg s rfl).mono ?_
  rintro e u' w'' ⟨rfl, rfl, rfl⟩
  simp [Leaves, settle, results, Try.results25, go_sem]
  refine ⟨rfl, hx2.far (by simpa using hgx) _, ?_, ((Chg.of_below _ B1.out).then_ (hc.mono fun _ h => .inl h)).setCell (.inl (.inr rfl)) _⟩
  have := hg2.set_ 0 (.iface 9 (.string s))
  simpa using this

set_option maxRecDepth 4000 in
set_option maxHeartbeats 2000000 in
theorem panics_any (n : Nat) (hn : n < 4294967296) (s : ByteArray) (hs : s.size ≤ maxLen) (w : World) :
    Calls Try.prog 6 #[.int .u32 (n : Int), .string s] w fun e w' => e = .returned (.bool true) ∧ Below w.heap.size w w' := by
  unfold maxLen at hs
  have hmf : ∀ (fn : Fn) (first cap : Array Value) (w : World), (Instr.makeFunc fn first cap).run Try.prog w = .ok (.func fn first cap) w := fun _ _ _ _ => rfl
  have hta : ∀ w, (Instr.typeAssert (.iface 9 (.string s)) 20 9 true).run Try.prog w = .ok (.tuple #[.string s, .bool true]) w := fun w => by kernel_rfl
  have ha := and_u32 n hn
  have hm : n % 268435456 < 268435456 := Nat.mod_lt _ (by decide)
  generalize n % 268435456 = m at *
  have b0 : Below w.heap.size w (w.alloc (.cells #[.string s] 9)) := (Below.refl _ _).alloc (Nat.le_refl _) _
  have Ha := Lib.hid (cawake (w.alloc (.cells #[.string s] 9)))
  by_cases hl : s.size ≤ 1000
  · have q : decide (1000 < (s.size : Int)) = false := by simp; omega
    go_enter Try.func6, Try.ntmps6
    go_wp2_with fail
    refine Ha.out.mono ?_
    rintro e w1 ⟨rfl, b1⟩
    have ht1 : Blk w1 w.heap.size 9 #[.string s] := (Blk.new w _ _).keep (b1.block _ (by simp))
    have ct := cell_at ht1
    have B1 := Lib.hid (b0.trans (b1.mono b0.size))
    have hz1 := B1.out.size
    have n1 := wn_num (wn_new w1 hz1) m hm (by decide)
    rw [List.nil_append] at n1
    have N1 := Lib.hid n1
    have Ht1 := Lib.hid (ht1.alloc (.cells #[.slice none 0 0] 26))
    clear b1 b0 Ha ht1 n1
    go_wp2_with fail
    refine N1.out.mono ?_
    rintro e w2 ⟨rfl, h2, o2⟩
    have ht2 := o2.kind _ _ _ Ht1.out (by decide) (by decide)
    have b2 : Below w.heap.size w w2 := (B1.out.alloc hz1 _).trans (o2.below (by simp; omega))
    have hz2 := b2.size
    have h3 := (h2.alloc (.cells #[.int .i64 (-1)] 3)).alloc (.cells #[.nilIface] 20)
    have ht3 := (ht2.alloc (.cells #[.int .i64 (-1)] 3)).alloc (.cells #[.nilIface] 20)
    have hx3 : Blk ((w2.alloc (.cells #[.int .i64 (-1)] 3)).alloc (.cells #[.nilIface] 20)) w2.heap.size 3 #[.int .i64 (-1)] := (Blk.new _ _ _).alloc _
    have hg3 : Blk ((w2.alloc (.cells #[.int .i64 (-1)] 3)).alloc (.cells #[.nilIface] 20)) (w2.heap.size + 1) 20 #[.nilIface] := by
      have := Blk.new (w2.alloc (.cells #[.int .i64 (-1)] 3)) 20 #[.nilIface]
      simpa using this
    have P := Lib.hid (pan1_any h3 hm hx3 ht3 hg3)
    have B3 := Lib.hid ((b2.alloc hz2 (.cells #[.int .i64 (-1)] 3)).alloc (by simp; omega) (.cells #[.nilIface] 20))
    have Ht3 := Lib.hid ht3
    have Hx3 := Lib.hid hx3
    have Hg3 := Lib.hid hg3
    have hxw : w.heap.size ≤ w2.heap.size := hz2
    have hgw : w.heap.size ≤ w2.heap.size + 1 := by omega
    have hne1 := Blk.ne_ ht3 hx3 (by decide)
    have hne2 := Blk.ne_ ht3 hg3 (by decide)
    clear N1 h2 o2 ht2 b2 h3 ht3 hx3 hg3 B1 Ht1
    go_wp2_with fail
    generalize hW : (w2.alloc (.cells #[.int .i64 (-1)] 3)).alloc (.cells #[.nilIface] 20) = W at *
    clear hW
    generalize w2.heap.size + 1 = g at *
    generalize w2.heap.size = x at *
    refine P.out.mono ?_
    rintro e w5 ⟨rfl, hx5, hg5, hc5⟩
    have ht5 := Ht3.out.keep (hc5.block _ Ht3.out.lt (by rintro (h | h) <;> omega))
    have cg := cell_at hg5
    have cx := cell_at hx5
    have ct5 := cell_at ht5
    have B5 := Lib.hid (B3.out.trans (hc5.below B3.out.size fun b hb => by rcases hb with rfl | rfl <;> omega))
    clear hx5 hg5 hc5 ht5 P
    go_wp2_with fail
    go_ret
    exact ⟨rfl, B5.out⟩
  · have q : decide (1000 < (s.size : Int)) = true := by simp; omega
    go_enter Try.func6, Try.ntmps6
    go_wp2_with fail
    refine Ha.out.mono ?_
    rintro e w1 ⟨rfl, b1⟩
    have ht1 : Blk w1 w.heap.size 9 #[.string s] := (Blk.new w _ _).keep (b1.block _ (by simp))
    have ct := cell_at ht1
    have B1 := Lib.hid (b0.trans (b1.mono b0.size))
    clear b1 b0 Ha ht1
    go_wp2_with fail
    go_ret
    exact ⟨rfl, B1.out⟩
end Go.Proofs.Ytajcfpldjomceaa
