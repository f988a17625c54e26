/- The program's slab: has, allocate. The program's slab: Write. The program's slab: Read; and Write of what are no whole blocks. -/
import Derived.Test.YtaainefdjbmekaaSlbJ
import Derived.Deep.RegionHeldLaw
import Derived.Deep.RegionHeld3
import Derived.Laws.ResultCell
namespace Go.Proofs.Ytaainefdjbmekaa
open Go.RowKit Go.Maps

section
variable {w wr w' : World} {P : SlP} {V : SlV} {K : Nat → Prop}
def hasB (N : Nat) (a n : Int) : Bool := 0 ≤ a ∧ 1 ≤ n ∧ n ≤ (N : Int) - a
set_option maxHeartbeats 4000000 in
theorem shas_any (h : SlS w wr P V K) (a n : Int) (ha : I64 a) (hN : V.st.blocks.length < 1000000) :
    Calls Try.prog 31 #[.pointer (some ⟨P.s, 0, none⟩), .agg #[.int .i64 a, .int .i64 n]] wr fun e w' => e = .returned (.bool (hasB V.st.blocks.length a n)) ∧ SlS w w' P V K ∧ Far K wr w' := by
  obtain ⟨W, hW⟩ : ∃ W, wr.alloc (.cells #[.int .i64 a, .int .i64 n] 33) = W := ⟨_, rfl⟩
  obtain ⟨x, hx⟩ : ∃ x, wr.heap.size = x := ⟨_, rfl⟩
  have hb : Below wr.heap.size wr W := by rw [← hW]; exact (Below.refl _ _).alloc (Nat.le_refl _) _
  have hB : Blk W x 33 #[.int .i64 a, .int .i64 n] := by rw [← hW, ← hx]; exact Blk.new _ _ _
  obtain ⟨h1, f1⟩ := h.step hb
  have x0 : W.cell? ⟨x, 0, none⟩ = some (.int .i64 a) := hB.cell 0
  have x1 : W.cell? ⟨x, 1, none⟩ = some (.int .i64 n) := hB.cell 1
  have s0 : W.cell? ⟨P.s, 0, none⟩ = some (.pointer (some ⟨P.p, 0, none⟩)) := h1.blk.cell 0
  have H1 := Lib.hid (And.intro h1.drew f1)
  have B1 := Lib.hid (sl_blocks h1.drew)
  obtain ⟨s, hs⟩ : ∃ s, s = P.s := ⟨_, rfl⟩
  obtain ⟨p, hp⟩ : ∃ p, p = P.p := ⟨_, rfl⟩
  obtain ⟨N, hNN⟩ : ∃ N, N = V.st.blocks.length := ⟨_, rfl⟩
  rw [← hs, ← hp] at s0
  rw [← hp, ← hNN] at B1
  rw [← hNN] at hN
  rw [← hs, ← hNN]
  clear hb hB h1 f1 h hs hp hNN
  obtain ⟨ha1, ha2⟩ := ha
  by_cases c1 : 0 ≤ a
  · have z1 : decide (0 ≤ a) = true := decide_eq_true c1
    by_cases c2 : 1 ≤ n
    · have z2 : decide (1 ≤ n) = true := decide_eq_true c2
      obtain ⟨d, hd⟩ : ∃ d, d = (N : Int) - a := ⟨_, rfl⟩
      have hres : hasB N a n = decide (n ≤ d) := by unfold hasB; rw [hd]; simp [c1, c2]
      by_cases cr : a ≤ 9223372036854775807
      · have hw : IntKind.i64.wrap ((N : Int) - a) = d := by rw [IntKind.wrap_i64, hd]; omega
        rw [hres]
        clear hres hd c1 c2 cr ha1 ha2
        cases hle : decide (n ≤ d) <;>
        · go_enter Try.func31, Try.ntmps31
          go_wp2_with fail
          go_region_held3 (fun u => u.cell? ⟨x, 0, none⟩ = some (.int .i64 a) ∧ u.cell? ⟨x, 1, none⟩ = some (.int .i64 n) ∧ u.cell? ⟨s, 0, none⟩ = some (.pointer (some ⟨p, 0, none⟩))) (first | exact ⟨x0, x1, s0⟩)
            (first | (go_at_call 13; (refine B1.out.mono ?_); rintro e w2 ⟨rfl, rfl⟩))
          go_wp2_with fail
          go_ret
          exact ⟨rfl, H1.out⟩
      · have hd0 : hasB N a n = false := by unfold hasB; rw [decide_eq_false_iff_not]; omega
        obtain ⟨q, hq⟩ : ∃ q, q = IntKind.i64.wrap ((N : Int) - a) := ⟨_, rfl⟩
        omega
    · have hres : hasB N a n = false := by unfold hasB; rw [decide_eq_false_iff_not]; exact fun h => c2 h.2.1
      have z2 : decide (1 ≤ n) = false := decide_eq_false c2
      rw [hres]
      clear hres c1 c2
      go_enter Try.func31, Try.ntmps31
      go_wp2_with fail
      go_region
      go_wp2_with fail
      go_ret
      exact ⟨rfl, H1.out⟩
  · have hres : hasB N a n = false := by unfold hasB; rw [decide_eq_false_iff_not]; exact fun h => c1 h.1
    have z1 : decide (0 ≤ a) = false := decide_eq_false c1
    rw [hres]
    clear hres c1
    go_enter Try.func31, Try.ntmps31
    go_wp2_with fail
    go_region
    go_wp2_with fail
    go_ret
    exact ⟨rfl, H1.out⟩

/-- What allocate answers and leaves. -/
def SlV.alloc (V : SlV) (n : Nat) : Nat × Bool × SlV :=
  if (Rn.take V.F n).2.1 = true then ((Rn.take V.F n).1, true, { V with F := (Rn.take V.F n).2.2, now := (Sh.add V.now (Rn.take V.F n).1 n).2 }) else (0, false, { V with F := (Rn.take V.F n).2.2 })
set_option maxHeartbeats 4000000 in
theorem salloc_any (h : SlS w wr P V K) (n : Nat) (hn : n < 1000000) (hs1 : ShSt (Rn.take V.F n).2.2 V.now V.was) (hs2 : (Rn.take V.F n).2.1 = true → ShSt (Rn.take V.F n).2.2 (Sh.add V.now (Rn.take V.F n).1 n).2 V.was) :
    Calls Try.prog 28 #[.pointer (some ⟨P.s, 0, none⟩), .int .i64 (n : Int)] wr fun e w' => e = .returned (.tuple #[.agg #[.int .i64 ((V.alloc n).1 : Int), .int .i64 (if (V.alloc n).2.1 then (n : Int) else 0)], .bool (V.alloc n).2.1]) ∧ SlS w w' P (V.alloc n).2.2 K ∧ Far K wr w' := by
  obtain ⟨W, hW⟩ : ∃ W, wr.alloc (.cells #[.int .i64 0, .int .i64 0] 33) = W := ⟨_, rfl⟩
  obtain ⟨x, hx⟩ : ∃ x, wr.heap.size = x := ⟨_, rfl⟩
  have hb : Below wr.heap.size wr W := by rw [← hW]; exact (Below.refl _ _).alloc (Nat.le_refl _) _
  have hB : Blk W x 33 #[.int .i64 0, .int .i64 0] := by rw [← hW, ← hx]; exact Blk.new _ _ _
  have h1 := h.new hb (Y := fun b => b = x) (fun b hb => by subst hb; exact ⟨Nat.le_of_eq hx, hB.lt⟩)
  have f1 := (h.step hb).2
  have s2 : W.cell? ⟨P.s, 2, none⟩ = some (.pointer (some ⟨P.g, 0, none⟩)) := h1.blk.cell 2
  have T1 := sl_take h1 (n : Int) (by unfold I64; omega) hs1
  have hwx : w.heap.size ≤ x := by rw [← hx]; exact h.bel.size
  obtain ⟨a, ha⟩ : ∃ a, a = (Rn.take V.F n).1 := ⟨_, rfl⟩
  obtain ⟨F', hF'⟩ : ∃ F', F' = (Rn.take V.F n).2.2 := ⟨_, rfl⟩
  obtain ⟨s, hs⟩ : ∃ s, s = P.s := ⟨_, rfl⟩
  obtain ⟨g, hg⟩ : ∃ g, g = P.g := ⟨_, rfl⟩
  obtain ⟨gs, hgs⟩ : ∃ gs, gs = P.gs := ⟨_, rfl⟩
  unfold SlV.alloc
  rw [← ha, ← hF'] at T1 hs2 ⊢
  rw [← hF'] at hs1
  rw [← hs, ← hg] at s2
  rw [← hg] at T1
  rw [← hs]
  have HB := Lib.hid hB
  have F1 := Lib.hid f1
  have GS := Lib.hid hgs
  have SS := Lib.hid hs
  have HS2 := Lib.hid hs2
  have HWX := Lib.hid hwx
  have NK := Lib.hid (show ¬ K x from fun hk => by have := h.lt hk; omega)
  cases ht : (Rn.take V.F n).2.1 with
  | false =>
    rw [ht] at T1
    have T := Lib.hid T1
    rw [if_neg (by decide)]
    clear hb hB h1 f1 h hs hg hgs ha hF' hs1 hs2 T1 ht hwx
    go_enter Try.func28, Try.ntmps28
    go_wp2_with fail
    refine T.out.mono ?_
    rintro e w2 ⟨rfl, h2, f2⟩
    have hB2 := f2.blk (g := x) (.inr rfl) HB.out
    have c0 : w2.cell? ⟨x, 0, none⟩ = some (.int .i64 0) := hB2.cell 0
    have c1 : w2.cell? ⟨x, 1, none⟩ = some (.int .i64 0) := hB2.cell 1
    have f0 := hB2.frozen 0
    have f1' := hB2.frozen 1
    have H2 := Lib.hid h2
    have F2 := Lib.hid f2
    clear h2 f2 T
    go_wp2_with fail
    have hBe := (hB2.set_ 0 (.int .i64 0)).set_ 1 (.int .i64 0)
    have e0 : ((w2.setCell ⟨x, 0, none⟩ (.int .i64 0)).setCell ⟨x, 1, none⟩ (.int .i64 0)).cell? ⟨x, 0, none⟩ = some (.int .i64 0) := hBe.cell 0
    have e1 : ((w2.setCell ⟨x, 0, none⟩ (.int .i64 0)).setCell ⟨x, 1, none⟩ (.int .i64 0)).cell? ⟨x, 1, none⟩ = some (.int .i64 0) := hBe.cell 1
    clear hBe
    refine bodyPost_ret (v := .tuple #[.agg #[.int .i64 0, .int .i64 0], .bool false]) ?_ rfl ⟨by simp, ((H2.out.own (.inr rfl) HWX.out _ _).own (.inr rfl) HWX.out _ _).mono fun b hb => .inl hb, ?_⟩
    · rw [results_cell_tmp rfl]
      go_simp
    · exact ((F1.out.trans (Far.mono F2.out fun b hb => .inl hb)).set NK.out 0 _).set NK.out 1 _
  | true =>
    rw [ht] at T1
    have HS2 := Lib.hid (HS2.out ht)
    have T := Lib.hid T1
    rw [if_pos rfl]
    clear hb hB h1 f1 h hs hg hgs ha hF' hs1 hs2 T1 ht hwx
    go_enter Try.func28, Try.ntmps28
    go_wp2_with fail
    refine T.out.mono ?_
    rintro e w2 ⟨rfl, h2, f2⟩
    have H2 := Lib.hid h2
    have F2 := Lib.hid f2
    have hB2 := f2.blk (g := x) (.inr rfl) HB.out
    have s1 : w2.cell? ⟨s, 1, none⟩ = some (.pointer (some ⟨gs, 0, none⟩)) := by rw [SS.out, GS.out]; exact h2.blk.cell 1
    have hsl : s < w2.heap.size := by rw [SS.out]; exact h2.blk.lt
    have c0 : w2.cell? ⟨x, 0, none⟩ = some (.int .i64 0) := hB2.cell 0
    have c1 : w2.cell? ⟨x, 1, none⟩ = some (.int .i64 0) := hB2.cell 1
    have f0 := hB2.frozen 0
    have f1' := hB2.frozen 1
    clear h2 f2 T
    go_upto_region 5 with fail
    obtain ⟨W3, hW3⟩ : ∃ W3, w2.alloc (.cells #[.int .i64 (a : Int), .int .i64 (n : Int)] 33) = W3 := ⟨_, rfl⟩
    obtain ⟨y, hy⟩ : ∃ y, w2.heap.size = y := ⟨_, rfl⟩
    have b3 : Below w2.heap.size w2 W3 := by rw [← hW3]; exact (Below.refl _ _).alloc (Nat.le_refl _) _
    have hy3 : Blk W3 y 33 #[.int .i64 (a : Int), .int .i64 (n : Int)] := by rw [← hW3, ← hy]; exact Blk.new _ _ _
    have hB3 := hB2.keep (b3.block x hB2.lt)
    have h3 := H2.out.new b3 (Y := fun b => b = y) (fun b hb => by subst hb; exact ⟨Nat.le_of_eq hy, hy3.lt⟩)
    have F3 := Lib.hid (F2.out.trans (H2.out.step b3).2)
    have A1 := sl_add h3.drew (a : Int) (n : Int) HS2.out
    rw [← GS.out] at A1
    have A1 := Lib.hid A1
    have y0 : W3.cell? ⟨y, 0, none⟩ = some (.int .i64 (a : Int)) := hy3.cell 0
    have y1 : W3.cell? ⟨y, 1, none⟩ = some (.int .i64 (n : Int)) := hy3.cell 1
    have s3 : W3.cell? ⟨s, 1, none⟩ = some (.pointer (some ⟨gs, 0, none⟩)) := by rw [SS.out, GS.out]; exact h3.blk.cell 1
    have HY3 := Lib.hid hy3
    have HB3 := Lib.hid hB3
    rw [hW3, hy]
    clear b3 hy3 h3 hB2 hB3 c0 c1 f0 f1' s1 hsl
    go_region_held3 (fun u => u.cell? ⟨y, 0, none⟩ = some (.int .i64 (a : Int)) ∧ u.cell? ⟨y, 1, none⟩ = some (.int .i64 (n : Int)) ∧ u.cell? ⟨s, 1, none⟩ = some (.pointer (some ⟨gs, 0, none⟩))) (first | exact ⟨y0, y1, s3⟩ | exact KS.out)
      (first | (go_at_call 47; (refine A1.out.mono ?_); rintro e w4 ⟨rfl, h4, f4⟩; have H4 := Lib.hid h4; have F4 := Lib.hid f4; have HY4 := Lib.hid (f4.blk (g := y) (.inr rfl) HY3.out); have HB4 := Lib.hid (f4.blk (g := x) (.inl (.inr rfl)) HB3.out); have KS := Lib.hid (And.intro (HY4.out.cell 0) (And.intro (HY4.out.cell 1) (show w4.cell? ⟨s, 1, none⟩ = some (.pointer (some ⟨gs, 0, none⟩)) by rw [SS.out, GS.out]; exact h4.blk.cell 1))); clear h4 f4))
    have z0 : w4.cell? ⟨y, 0, none⟩ = some (.int .i64 (a : Int)) := HY4.out.cell 0
    have z1 : w4.cell? ⟨y, 1, none⟩ = some (.int .i64 (n : Int)) := HY4.out.cell 1
    have c0 : w4.cell? ⟨x, 0, none⟩ = some (.int .i64 0) := HB4.out.cell 0
    have c1 : w4.cell? ⟨x, 1, none⟩ = some (.int .i64 0) := HB4.out.cell 1
    have f0 := HB4.out.frozen 0
    have f1' := HB4.out.frozen 1
    go_wp2_with fail
    have hBe := (HB4.out.set_ 0 (.int .i64 (a : Int))).set_ 1 (.int .i64 (n : Int))
    have e0 : ((w4.setCell ⟨x, 0, none⟩ (.int .i64 (a : Int))).setCell ⟨x, 1, none⟩ (.int .i64 (n : Int))).cell? ⟨x, 0, none⟩ = some (.int .i64 (a : Int)) := hBe.cell 0
    have e1 : ((w4.setCell ⟨x, 0, none⟩ (.int .i64 (a : Int))).setCell ⟨x, 1, none⟩ (.int .i64 (n : Int))).cell? ⟨x, 1, none⟩ = some (.int .i64 (n : Int)) := hBe.cell 1
    clear hBe
    refine bodyPost_ret (v := .tuple #[.agg #[.int .i64 (a : Int), .int .i64 (n : Int)], .bool true]) ?_ rfl ⟨by simp, ((H4.out.own (.inl (.inr rfl)) HWX.out _ _).own (.inl (.inr rfl)) HWX.out _ _).mono fun b hb => .inl (.inl hb), ?_⟩
    · rw [results_cell_tmp rfl]
      go_simp
    · exact (((F1.out.trans (Far.mono F3.out fun b hb => .inl hb)).trans (Far.mono F4.out fun b hb => .inl (.inl hb))).set NK.out 0 _).set NK.out 1 _
end
end Go.Proofs.Ytaainefdjbmekaa

namespace Go.Proofs.Ytaainefdjbmekaa
open Go.RowKit Go.Maps

section
variable {w wr w' : World} {P : SlP} {V : SlV} {K : Nat → Prop}
theorem SmallS.wrs {st : PSt} {a : Nat} {l : List Nat} {m : Nat} : ∀ {j : Nat}, SmallS st (m + j) → SmallS (st.wrs a l j).2 m
  | 0, h => h
  | j + 1, h => by
    have ih := SmallS.wrs (a := a) (l := l) (m := m + 1) (j := j) (h.mono (by omega))
    rw [PSt.wrs]
    split
    · exact ih.write _ _
    · exact ih.mono (by omega)
theorem SmallS.rds {st : PSt} {a : Nat} {m : Nat} : ∀ {j : Nat}, SmallS st (m + j) → SmallS (st.rds a j).2.2 m
  | 0, h => h
  | j + 1, h => by
    have ih := SmallS.rds (a := a) (m := m + 1) (j := j) (h.mono (by omega))
    rw [PSt.rds]
    split
    · exact ih.count 1
    · exact ih.mono (by omega)
/-- What Write answers to n whole blocks, and leaves. -/
def SlV.write (V : SlV) (l : List Nat) (n : Nat) : (Nat × Nat × Int) × SlV :=
  if (V.alloc n).2.1 = true then
    (if ((V.alloc n).2.2.st.wrs (V.alloc n).1 l n).1 = 0 then (((V.alloc n).1, n, 0), { (V.alloc n).2.2 with st := ((V.alloc n).2.2.st.wrs (V.alloc n).1 l n).2 })
     else ((0, 0, ((V.alloc n).2.2.st.wrs (V.alloc n).1 l n).1), { (V.alloc n).2.2 with st := ((V.alloc n).2.2.st.wrs (V.alloc n).1 l n).2 }))
  else ((0, 0, 7), (V.alloc n).2.2)
def wriV (r : (Nat × Nat × Int)) : Value := .tuple #[.agg #[.int .i64 (r.1 : Int), .int .i64 (r.2.1 : Int)], .int .i64 r.2.2]
theorem SlS.sl {w2 : World} {V2 : SlV} {K2 K3 : Nat → Prop} (h : SlS w wr P V K) (h2 : SlS w w2 P V2 K2) (hf : Far K3 wr w2) {A : Option Addr} {xs : List Value} (hs : Sl wr wr.heap.size A xs) (hA : ∀ b o, A = some ⟨b, o, none⟩ → b < w.heap.size ∨ K3 b) : Sl w2 w2.heap.size A xs := by
  rcases hs with h0 | ⟨b, o, e, hB, hc⟩
  · exact .inl h0
  · refine .inr ⟨b, o, e, Nat.lt_of_lt_of_le hB hf.1, fun i hi => ?_⟩
    have he : w2.heap[b]? = wr.heap[b]? := by
      rcases hA b o e with h1 | h1
      · exact (h2.bel.block b h1).trans (h.bel.block b h1).symm
      · exact hf.2 b h1
    exact (World.cell?_of_block he).trans (hc i hi)
set_option maxHeartbeats 16000000 in
theorem swrite_any (h : SlS w wr P V K) {A : Option Addr} {cap n : Nat} {l : List Nat} (hl : l.length = 64 * n) (hn : 1 ≤ n) (hn2 : n ≤ 8192) (hb : ∀ x ∈ l, x < 256) (hsl : Sl wr wr.heap.size A (byts l)) (hcap : l.length ≤ cap) (hA : ∀ b o, A = some ⟨b, o, none⟩ → b < w.heap.size ∨ K b)
    (hm : SmallS V.st n) (hs1 : ShSt (Rn.take V.F n).2.2 V.now V.was) (hs2 : (Rn.take V.F n).2.1 = true → ShSt (Rn.take V.F n).2.2 (Sh.add V.now (Rn.take V.F n).1 n).2 V.was) (hlt : (Rn.take V.F n).1 ≤ 100000) :
    Calls Try.prog 8 #[.pointer (some ⟨P.s, 0, none⟩), .slice A l.length cap] wr fun e w' => e = .returned (wriV (V.write l n).1) ∧ SlS w w' P (V.write l n).2 K ∧ Far K wr w' := by
  obtain ⟨W, hW⟩ : ∃ W, wr.alloc (.cells #[.int .i64 0, .int .i64 0] 33) = W := ⟨_, rfl⟩
  obtain ⟨x, hx⟩ : ∃ x, wr.heap.size = x := ⟨_, rfl⟩
  have hbw : Below wr.heap.size wr W := by rw [← hW]; exact (Below.refl _ _).alloc (Nat.le_refl _) _
  have hB : Blk W x 33 #[.int .i64 0, .int .i64 0] := by rw [← hW, ← hx]; exact Blk.new _ _ _
  have h1 := h.new hbw (Y := fun b => b = x) (fun b hb => by subst hb; exact ⟨Nat.le_of_eq hx, hB.lt⟩)
  have AL := Lib.hid (salloc_any h1 n (by omega) hs1 hs2)
  have F1 := Lib.hid (h.step hbw).2
  have HWX := Lib.hid (show w.heap.size ≤ x by rw [← hx]; exact h.bel.size)
  have NK := Lib.hid (show ¬ K x from fun hk => by have := h.lt hk; omega)
  have HB := Lib.hid hB
  have H := Lib.hid h
  have HSL := Lib.hid hsl
  have HA := Lib.hid hA
  have HBy := Lib.hid hb
  have HM := Lib.hid hm
  obtain ⟨q, hq⟩ : ∃ q, q = l.length := ⟨_, rfl⟩
  have HQ := Lib.hid hq
  have HL := Lib.hid hl
  rw [← hq] at hl hcap ⊢
  have z1 : ((q : Int) == 0) = false := by simp; omega
  have z2 : (q : Int).tmod 64 = 0 := by rw [Int.tmod_eq_emod_of_nonneg (by omega)]; omega
  have z3 : (q : Int).tdiv 64 = (n : Int) := by rw [Int.tdiv_eq_ediv_of_nonneg (by omega)]; omega
  obtain ⟨s, hs⟩ : ∃ s, s = P.s := ⟨_, rfl⟩
  have SS := Lib.hid hs
  rw [← hs] at AL ⊢
  have hlt' : (V.alloc n).1 ≤ 100000 := by unfold SlV.alloc; split; · exact hlt
                                           omega
  obtain ⟨R, hR⟩ : ∃ R, R = V.write l n := ⟨_, rfl⟩
  have HR2 := Lib.hid hR
  rw [← hR]
  obtain ⟨a, ha⟩ : ∃ a, a = (V.alloc n).1 := ⟨_, rfl⟩
  obtain ⟨V2, hV2⟩ : ∃ V2, V2 = (V.alloc n).2.2 := ⟨_, rfl⟩
  have hVst : V2.st = V.st := by rw [hV2]; unfold SlV.alloc; split <;> rfl
  rw [← ha, ← hV2] at AL
  have HA2 := Lib.hid ha
  have HV2 := Lib.hid hV2
  rw [← ha] at hlt'
  have HVS := Lib.hid hVst
  have hqb : q ≤ 524288 := by omega
  clear h h1 hB hbw hsl hA hb hm hq hs ha hV2 hVst hs1 hs2 hlt hl hR
  cases ht : (V.alloc n).2.1 with
  | false =>
    rw [ht] at AL
    have HT := Lib.hid (show R = ((0, 0, 7), V2) by rw [HR2.out]; unfold SlV.write; rw [if_neg (by rw [ht]; decide), ← HV2.out])
    clear ht
    go_enter Try.func8, Try.ntmps8
    go_wp2_with fail
    refine AL.out.mono ?_
    rintro e w2 ⟨rfl, h2, f2⟩
    have hB2 := f2.blk (g := x) (.inr rfl) HB.out
    have c0 : w2.cell? ⟨x, 0, none⟩ = some (.int .i64 0) := hB2.cell 0
    have c1 : w2.cell? ⟨x, 1, none⟩ = some (.int .i64 0) := hB2.cell 1
    have f0 := hB2.frozen 0
    have f1' := hB2.frozen 1
    have H2 := Lib.hid h2
    have F2 := Lib.hid f2
    have HB2 := Lib.hid hB2
    have hxl := hB2.lt
    clear h2 f2 hB2 AL
    go_wp2_with fail
    have hBe := ((HB2.out.set_ 0 (.int .i64 0)).set_ 1 (.int .i64 0)).alloc (.cells #[.int .i64 (a : Int), .int .i64 0] 33)
    have e0 := hBe.cell 0
    have e1 := hBe.cell 1
    simp only [List.getElem?_toArray, List.setIfInBounds_toArray, List.set_cons_zero, List.set_cons_succ, List.getElem?_cons_zero, List.getElem?_cons_succ] at e0 e1
    have X2 := (H2.out.own (.inr rfl) HWX.out 0 (.int .i64 0)).own (.inr rfl) HWX.out 1 (.int .i64 0)
    have X3 := X2.step ((Below.refl _ _).alloc (Nat.le_refl _) (.cells #[.int .i64 (a : Int), .int .i64 0] 33))
    have XX := Lib.hid (And.intro (X3.1.mono fun b hb => .inl hb) ((((F1.out.trans (Far.mono F2.out fun b hb => .inl hb)).set NK.out 0 (.int .i64 0)).set NK.out 1 (.int .i64 0)).trans (Far.mono X3.2 fun b hb => .inl hb)))
    clear hBe X2 X3
    refine bodyPost_ret (v := .tuple #[.agg #[.int .i64 0, .int .i64 0], .int .i64 7]) ?_ rfl ?_
    · rw [results_cell_tmp rfl]
      go_simp
    · rw [HT.out]
      exact ⟨rfl, XX.out.1, XX.out.2⟩
  | true =>
    rw [ht] at AL
    have HT1 := Lib.hid (show (V2.st.wrs a l n).1 = 0 → R = ((a, n, 0), { V2 with st := (V2.st.wrs a l n).2 }) from fun h0 => by rw [HR2.out]; unfold SlV.write; rw [if_pos ht, ← HV2.out, ← HA2.out, if_pos h0])
    have HT2 := Lib.hid (show ¬ (V2.st.wrs a l n).1 = 0 → R = ((0, 0, (V2.st.wrs a l n).1), { V2 with st := (V2.st.wrs a l n).2 }) from fun h0 => by rw [HR2.out]; unfold SlV.write; rw [if_pos ht, ← HV2.out, ← HA2.out, if_neg h0])
    clear ht
    go_enter Try.func8, Try.ntmps8
    go_wp2_with fail
    refine AL.out.mono ?_
    rintro e w2 ⟨rfl, h2, f2⟩
    have hB2 := f2.blk (g := x) (.inr rfl) HB.out
    have c0 : w2.cell? ⟨x, 0, none⟩ = some (.int .i64 0) := hB2.cell 0
    have c1 : w2.cell? ⟨x, 1, none⟩ = some (.int .i64 0) := hB2.cell 1
    have f0 := hB2.frozen 0
    have f1' := hB2.frozen 1
    have H2 := Lib.hid h2
    have F2 := Lib.hid f2
    have HB2 := Lib.hid hB2
    have hxl := hB2.lt
    clear h2 f2 hB2 AL
    obtain ⟨b0, o0, rfl⟩ : ∃ b o, A = some ⟨b, o, none⟩ := by
      rcases HSL.out with h0 | ⟨b, o, e, _⟩
      · have h3 : (byts l).length = l.length := byts_length l
        rw [h0, List.length_nil, ← HQ.out] at h3
        have := HL.out; rw [← HQ.out] at this; omega
      · exact ⟨b, o, e⟩
    go_upto_region 6 with fail
    obtain ⟨W3, hW3⟩ : ∃ W3, w2.alloc (.cells #[.int .i64 (a : Int), .int .i64 (n : Int)] 33) = W3 := ⟨_, rfl⟩
    obtain ⟨y, hy⟩ : ∃ y, w2.heap.size = y := ⟨_, rfl⟩
    have b3 : Below w2.heap.size w2 W3 := by rw [← hW3]; exact (Below.refl _ _).alloc (Nat.le_refl _) _
    have hy3 : Blk W3 y 33 #[.int .i64 (a : Int), .int .i64 (n : Int)] := by rw [← hW3, ← hy]; exact Blk.new _ _ _
    have h3 := H2.out.new b3 (Y := fun b => b = y) (fun b hb => by subst hb; exact ⟨Nat.le_of_eq hy, hy3.lt⟩)
    have F3 := Lib.hid ((F1.out.trans (Far.mono F2.out fun b hb => .inl hb)).trans (Far.mono (H2.out.step b3).2 fun b hb => .inl hb))
    have H3 := Lib.hid h3
    have HY3 := Lib.hid hy3
    have HB3 := Lib.hid (HB2.out.keep (b3.block x HB2.out.lt))
    have y1 : W3.cell? ⟨y, 1, none⟩ = some (.int .i64 (n : Int)) := hy3.cell 1
    rw [hW3, hy]
    clear b3 hy3 h3 c0 c1 f0 f1' hxl hW3 hy
    go_wp2_with fail
    go_loopw [37] (fun v wr => ∃ j : Nat, v = .int .i64 (j : Int) ∧ j ≤ n ∧ (V2.st.wrs a l j).1 = 0 ∧ SlS w wr P { V2 with st := (V2.st.wrs a l j).2 } (fun b => (K b ∨ b = x) ∨ b = y) ∧ Far (fun b => (K b ∨ b = x) ∨ b = y) W3 wr) (fun v _ => n - (RowKit.intOf v).toNat)
    case atStart => exact ⟨0, rfl, Nat.zero_le _, rfl, H3.out, Far.refl _ _⟩
    case round =>
      obtain ⟨j, rfl, hj, hw0, hS, hF⟩ := hrel
      have hyu := hF.blk (g := y) (.inr rfl) HY3.out
      have hxu := hF.blk (g := x) (.inl (.inr rfl)) HB3.out
      by_cases hjn : j < n
      · have y0 : decide ((j : Int) < (n : Int)) = true := by rw [decide_eq_true_eq]; omega
        have y0' : decide (j < n) = true := by rw [decide_eq_true_eq]; exact hjn
        obtain ⟨k1, hk1⟩ : ∃ k1, k1 = 64 * j := ⟨_, rfl⟩
        obtain ⟨k2, hk2⟩ : ∃ k2, k2 = 64 * (j + 1) := ⟨_, rfl⟩
        obtain ⟨aj, haj⟩ : ∃ aj, aj = a + j := ⟨_, rfl⟩
        have e1 : IntKind.i64.wrap ((j : Int) * 64) = (k1 : Int) := by rw [IntKind.wrap_i64]; omega
        obtain ⟨j1, hj1⟩ : ∃ j1, j1 = j + 1 := ⟨_, rfl⟩
        have e2 : IntKind.i64.wrap ((j : Int) + 1) = (j1 : Int) := by rw [IntKind.wrap_i64]; omega
        have e4 : IntKind.i64.wrap ((j1 : Int) * 64) = (k2 : Int) := by rw [IntKind.wrap_i64]; omega
        have e3 : IntKind.i64.wrap ((a : Int) + (j : Int)) = (aj : Int) := by rw [IntKind.wrap_i64]; omega
        have hql : q = 64 * n := HQ.out.trans HL.out
        obtain ⟨i0, hi0, _, hs0, _⟩ := byte_parts (P := Try.prog) (e := 5) (by kernel_rfl)
        obtain ⟨cp, hcp⟩ : ∃ cp, cp = cap - k1 := ⟨_, rfl⟩
        have hslc : ∀ u, (Instr.slice 22 (.slice (some ⟨b0, o0, none⟩) q cap) (some (.int .i64 (k1 : Int))) (some (.int .i64 (k2 : Int))) none).run Try.prog u = .ok (.slice (some ⟨b0, o0 + k1, none⟩) 64 cp) u := fun u => by
          rw [run_slice_mid (P := Try.prog) Try.underlying22 hi0 hs0 (some ⟨b0, o0, none⟩) q cap k1 k2 (by omega) (by omega) u, show k2 - k1 = 64 by omega, ← hcp]
          unfold cutA
          rw [if_neg (by omega)]
          simp [Addr.add_lit]
        have hslu := H.out.sl hS (F3.out.trans (Far.mono hF fun b hb => .inl (.inl hb))) HSL.out HA.out
        have hln : (blkOf l j).length = 64 := by unfold blkOf; rw [List.length_take, List.length_drop, HL.out]; omega
        have hcut : Sl wr wr.heap.size (some ⟨b0, o0 + k1, none⟩) (byts (blkOf l j)) := by
          have h5 := (hslu.from (cap := cap) (k := k1) (by rw [byts_length, ← HQ.out]; exact hcap)).to 64
          unfold cutA at h5
          rw [if_neg (by omega), byts_drop, byts_take, hk1] at h5
          rw [hk1]
          simpa [Addr.add_lit, blkOf] using h5
        have WR := sl_dwrite hS.drew (((HVS.out ▸ HM.out : SmallS V2.st n).mono (m' := 0 + j) (by omega)).wrs) (aj : Int) (A := some ⟨b0, o0 + k1, none⟩) (cap := cp) (l := blkOf l j) (fun z hz => HBy.out z (List.mem_of_mem_drop (List.mem_of_mem_take hz))) hcut (fun b o e => by
          injection e with e; injection e with e _; subst e
          exact (HA.out b0 o0 rfl).imp id fun h => .inl (.inl h))
        have hst : (V2.st.wrs a l j).2.write (aj : Int) (blkOf l j) = V2.st.wrs a l (j + 1) := by rw [PSt.wrs, if_pos hw0, haj]
        have s0 : wr.cell? ⟨s, 0, none⟩ = some (.pointer (some ⟨P.p, 0, none⟩)) := by rw [SS.out]; exact hS.blk.cell 0
        have ya : wr.cell? ⟨y, 0, none⟩ = some (.int .i64 (a : Int)) := hyu.cell 0
        rw [hln] at WR
        dsimp only at WR
        rw [hst] at WR
        have WR1 := Lib.hid WR
        have HF := Lib.hid hF
        obtain ⟨p, hp⟩ : ∃ p, p = P.p := ⟨_, rfl⟩
        rw [← hp] at s0 WR1
        have HP := Lib.hid hp
        have HYU := Lib.hid hyu
        have HJ := Lib.hid hj1
        obtain ⟨r, hr⟩ : ∃ r, r = (V2.st.wrs a l (j + 1)).1 := ⟨_, rfl⟩
        have HR := Lib.hid hr
        rw [← hr] at WR1
        have HSC := Lib.hid hslc
        clear hslc
        clear hj1 hS hF hw0 hk1 hk2 haj hql hcp hslu hcut hln hst WR hp hr hyu hxu hi0 hs0
        by_cases hr0 : r = 0
        · have r0 : (r != 0) = false := by simp [hr0]
          go_wp2_with fail
          go_region_held3 (fun v => v.cell? ⟨s, 0, none⟩ = some (.pointer (some ⟨p, 0, none⟩)) ∧ v.cell? ⟨y, 0, none⟩ = some (.int .i64 (a : Int)) ∧ (Instr.slice 22 (.slice (some ⟨b0, o0, none⟩) q cap) (some (.int .i64 (k1 : Int))) (some (.int .i64 (k2 : Int))) none).run Try.prog v = .ok (.slice (some ⟨b0, o0 + k1, none⟩) 64 cp) v) (first | exact ⟨s0, ya, HSC.out _⟩ | exact ⟨KS.out.1, KS.out.2, HSC.out _⟩)
            (first | (go_at_call 29; (refine WR1.out.mono ?_); rintro e w4 ⟨rfl, h4, f4⟩; have KS := Lib.hid (And.intro (show w4.cell? ⟨s, 0, none⟩ = some (.pointer (some ⟨p, 0, none⟩)) by rw [SS.out, HP.out]; exact h4.blk.cell 0) ((f4.blk (g := y) (.inr rfl) HYU.out).cell 0)); have H4 := Lib.hid h4; have F4 := Lib.hid f4; clear h4 f4))
          go_wp2_with fail
          go_roundw
          case rel => exact ⟨j + 1, by rw [HJ.out]; try go_num, by omega, by rw [← HR.out]; exact hr0, H4.out, HF.out.trans F4.out⟩
          case measure => have := HJ.out; simp [RowKit.intOf]; omega
        · have r0 : (r != 0) = true := by simp [hr0]
          go_wp2_with fail
          go_region_held3 (fun v => v.cell? ⟨s, 0, none⟩ = some (.pointer (some ⟨p, 0, none⟩)) ∧ v.cell? ⟨y, 0, none⟩ = some (.int .i64 (a : Int)) ∧ (Instr.slice 22 (.slice (some ⟨b0, o0, none⟩) q cap) (some (.int .i64 (k1 : Int))) (some (.int .i64 (k2 : Int))) none).run Try.prog v = .ok (.slice (some ⟨b0, o0 + k1, none⟩) 64 cp) v) (first | exact ⟨s0, ya, HSC.out _⟩ | exact ⟨KS.out.1, KS.out.2, HSC.out _⟩)
            (first | (go_at_call 29; (refine WR1.out.mono ?_); rintro e w4 ⟨rfl, h4, f4⟩; have KS := Lib.hid (And.intro (show w4.cell? ⟨s, 0, none⟩ = some (.pointer (some ⟨p, 0, none⟩)) by rw [SS.out, HP.out]; exact h4.blk.cell 0) ((f4.blk (g := y) (.inr rfl) HYU.out).cell 0)); have H4 := Lib.hid h4; have F4 := Lib.hid f4; clear h4 f4))
          have hB4 := (HF.out.trans F4.out).blk (g := x) (.inl (.inr rfl)) HB3.out
          have c0 : w4.cell? ⟨x, 0, none⟩ = some (.int .i64 0) := hB4.cell 0
          have c1 : w4.cell? ⟨x, 1, none⟩ = some (.int .i64 0) := hB4.cell 1
          have f0 := hB4.frozen 0
          have f1' := hB4.frozen 1
          have HB4 := Lib.hid hB4
          clear hB4
          go_wp2_with fail
          have hstk : V2.st.wrs a l n = V2.st.wrs a l (j + 1) := by
            have := wrs_stuck (st := V2.st) (a := a) (l := l) (j := j + 1) (by rw [← HR.out]; exact hr0) (n - (j + 1))
            rwa [show j + 1 + (n - (j + 1)) = n by omega] at this
          have hBe := (HB4.out.set_ 0 (.int .i64 0)).set_ 1 (.int .i64 0)
          have e0 : ((w4.setCell ⟨x, 0, none⟩ (.int .i64 0)).setCell ⟨x, 1, none⟩ (.int .i64 0)).cell? ⟨x, 0, none⟩ = some (.int .i64 0) := hBe.cell 0
          have e1 : ((w4.setCell ⟨x, 0, none⟩ (.int .i64 0)).setCell ⟨x, 1, none⟩ (.int .i64 0)).cell? ⟨x, 1, none⟩ = some (.int .i64 0) := hBe.cell 1
          have hne : ¬ (V2.st.wrs a l n).1 = 0 := by rw [hstk, ← HR.out]; exact hr0
          have XX := Lib.hid (And.intro (((H4.out.own (.inl (.inr rfl)) HWX.out 0 (.int .i64 0)).own (.inl (.inr rfl)) HWX.out 1 (.int .i64 0)).mono (K' := K) fun b hb => .inl (.inl hb)) (((F3.out.trans (Far.mono (HF.out.trans F4.out) fun b hb => .inl (.inl hb))).set NK.out 0 (.int .i64 0)).set NK.out 1 (.int .i64 0)))
          clear hBe
          refine bodyPost_ret (v := .tuple #[.agg #[.int .i64 0, .int .i64 0], .int .i64 r]) ?_ rfl ?_
          · rw [results_cell_tmp rfl]
            go_simp
          · rw [HT2.out hne, hstk, ← HR.out]
            exact ⟨rfl, XX.out.1, XX.out.2⟩
      · have y0 : decide ((j : Int) < (n : Int)) = false := by rw [decide_eq_false_iff_not]; omega
        have y0' : decide (j < n) = false := by rw [decide_eq_false_iff_not]; exact hjn
        have hjn' : j = n := by omega
        subst hjn'
        have y1 : wr.cell? ⟨y, 1, none⟩ = some (.int .i64 (j : Int)) := hyu.cell 1
        have ya : wr.cell? ⟨y, 0, none⟩ = some (.int .i64 (a : Int)) := hyu.cell 0
        have c0 : wr.cell? ⟨x, 0, none⟩ = some (.int .i64 0) := hxu.cell 0
        have c1 : wr.cell? ⟨x, 1, none⟩ = some (.int .i64 0) := hxu.cell 1
        have f0 := hxu.frozen 0
        have f1' := hxu.frozen 1
        have HXU := Lib.hid hxu
        have H4 := Lib.hid hS
        have HF := Lib.hid hF
        have HW0 := Lib.hid hw0
        clear hyu hxu hS hF hw0
        go_wp2_with fail
        have hBe := (HXU.out.set_ 0 (.int .i64 (a : Int))).set_ 1 (.int .i64 (j : Int))
        have e0 := hBe.cell 0
        have e1 := hBe.cell 1
        simp only [List.getElem?_toArray, List.setIfInBounds_toArray, List.set_cons_zero, List.set_cons_succ, List.getElem?_cons_zero, List.getElem?_cons_succ] at e0 e1
        have XX := Lib.hid (And.intro (((H4.out.own (.inl (.inr rfl)) HWX.out 0 (.int .i64 (a : Int))).own (.inl (.inr rfl)) HWX.out 1 (.int .i64 (j : Int))).mono (K' := K) fun b hb => .inl (.inl hb)) (((F3.out.trans (Far.mono HF.out fun b hb => .inl (.inl hb))).set NK.out 0 (.int .i64 (a : Int))).set NK.out 1 (.int .i64 (j : Int))))
        clear hBe
        refine bodyPost_ret (v := .tuple #[.agg #[.int .i64 (a : Int), .int .i64 (j : Int)], .int .i64 0]) ?_ rfl ?_
        · rw [results_cell_tmp rfl]
          go_simp
        · rw [HT1.out HW0.out]
          exact ⟨rfl, XX.out.1, XX.out.2⟩
end
end Go.Proofs.Ytaainefdjbmekaa

namespace Go.Proofs.Ytaainefdjbmekaa
open Go.RowKit Go.Maps

section
variable {w wr w' : World} {P : SlP} {V : SlV} {K : Nat → Prop}
/-- A row of one's own beside the slab grows. -/
theorem SlS.grow {v v' : Value} (h : SlS w wr P V (fun b => K b ∨ v.ownBlock = some b)) (hg : wr.grownBy w' v.ownBlock) (hv : ∀ b, v.ownBlock = some b → w.heap.size ≤ b) (h3 : v'.ownBlock = v.ownBlock ∨ v'.ownBlock = some wr.heap.size) (hlt : ∀ b, v'.ownBlock = some b → b < w'.heap.size) :
    SlS w w' P V (fun b => K b ∨ v'.ownBlock = some b) := by
  obtain ⟨F, X, h1, h2⟩ := h
  refine ⟨F, X, h1.keep hg.size (fun b hb => hg.block b (h1.lt b hb) fun e => ?_) (h1.bel.grown hg h1.bel.size fun b hb => hv b hb), fun b hb => ?_⟩
  · obtain ⟨_, n1, n2, n3⟩ := h2 b (.inr e.symm)
    rcases hb with hb | hb | hb
    · exact n1 hb
    · exact n2 hb
    · exact n3 hb
  · rcases hb with hb | hb
    · exact ⟨Nat.lt_of_lt_of_le (h2 b (.inl hb)).1 hg.size, (h2 b (.inl hb)).2⟩
    · rcases h3 with h4 | h4
      · rw [h4] at hb
        exact ⟨Nat.lt_of_lt_of_le (h2 b (.inr hb)).1 hg.size, (h2 b (.inr hb)).2⟩
      · have e : b = wr.heap.size := by rw [h4] at hb; injection hb with hb; exact hb.symm
        refine ⟨hlt b hb, fun hf => ?_, fun hf => ?_, fun hf => ?_⟩
        · have := h1.lt b (.inl hf); omega
        · have := h1.lt b (.inr (.inl hf)); omega
        · have := h1.lt b (.inr (.inr hf)); omega
theorem Far.grow {K : Nat → Prop} {a b c : World} {row : Option Nat} (h : Far K a b) (hg : b.grownBy c row) (hK : ∀ i, K i → i < a.heap.size) (hr : ∀ i, row = some i → ¬ K i) : Far K a c :=
  ⟨Nat.le_trans h.1 hg.size, fun i hi => (hg.block i (Nat.lt_of_lt_of_le (hK i hi) h.1) (fun e => hr i e.symm hi)).trans (h.2 i hi)⟩

theorem swrite_bad (h : SlS w wr P V K) {A : Option Addr} {cap q : Nat} (hq : q = 0 ∨ q % 64 ≠ 0) (hqb : q ≤ 1000000) :
    Calls Try.prog 8 #[.pointer (some ⟨P.s, 0, none⟩), .slice A q cap] wr fun e w' => e = .returned (wriV (0, 0, 1)) ∧ SlS w w' P V K ∧ Far K wr w' := by
  obtain ⟨s, hs⟩ : ∃ s, s = P.s := ⟨_, rfl⟩
  have X3 := h.step ((Below.refl _ _).alloc (Nat.le_refl _) (.cells #[.int .i64 0, .int .i64 0] 33))
  have XX := Lib.hid X3
  rw [← hs]
  clear X3 h hs
  unfold wriV
  by_cases h0 : q = 0
  · subst h0
    go_enter Try.func8, Try.ntmps8
    go_wp2_with fail
    refine bodyPost_ret (v := .tuple #[.agg #[.int .i64 0, .int .i64 0], .int .i64 1]) ?_ rfl ⟨rfl, XX.out.1, XX.out.2⟩
    rw [results_cell_tmp rfl]
    go_simp
  · have z1 : ((q : Int) == 0) = false := by simp; omega
    obtain ⟨r, hr⟩ : ∃ r : Nat, (q : Int).tmod 64 = r ∧ r ≠ 0 := ⟨q % 64, by rw [Int.tmod_eq_emod_of_nonneg (by omega)]; omega, by omega⟩
    have z2 := hr.1
    have z3 : ((r : Int) != 0) = true := by have := hr.2; simp; omega
    clear hr hq h0
    go_enter Try.func8, Try.ntmps8
    go_wp2_with fail
    refine bodyPost_ret (v := .tuple #[.agg #[.int .i64 0, .int .i64 0], .int .i64 1]) ?_ rfl ⟨rfl, XX.out.1, XX.out.2⟩
    rw [results_cell_tmp rfl]
    go_simp

theorem sread_no (h : SlS w wr P V K) (a n : Int) (ha : I64 a) (hN : V.st.blocks.length < 1000000) (hbad : hasB V.st.blocks.length a n = false) :
    Calls Try.prog 11 #[.pointer (some ⟨P.s, 0, none⟩), .agg #[.int .i64 a, .int .i64 n]] wr fun e w' => e = .returned (.tuple #[.slice none 0 0, .int .i64 1]) ∧ SlS w w' P V K ∧ Far K wr w' := by
  obtain ⟨W, hW⟩ : ∃ W, wr.alloc (.cells #[.int .i64 a, .int .i64 n] 33) = W := ⟨_, rfl⟩
  obtain ⟨x, hx⟩ : ∃ x, wr.heap.size = x := ⟨_, rfl⟩
  have hb : Below wr.heap.size wr W := by rw [← hW]; exact (Below.refl _ _).alloc (Nat.le_refl _) _
  have hB : Blk W x 33 #[.int .i64 a, .int .i64 n] := by rw [← hW, ← hx]; exact Blk.new _ _ _
  obtain ⟨h1, f1⟩ := h.step hb
  have HH := shas_any h1 a n ha hN
  rw [hbad] at HH
  have x0 : W.cell? ⟨x, 0, none⟩ = some (.int .i64 a) := hB.cell 0
  have x1 : W.cell? ⟨x, 1, none⟩ = some (.int .i64 n) := hB.cell 1
  obtain ⟨s, hs⟩ : ∃ s, s = P.s := ⟨_, rfl⟩
  rw [← hs] at HH ⊢
  have HB := Lib.hid HH
  have F1 := Lib.hid f1
  clear hb hB h1 f1 h hs HH hN hbad ha
  go_enter Try.func11, Try.ntmps11
  go_wp2_with fail
  refine HB.out.mono ?_
  rintro e w2 ⟨rfl, h2, f2⟩
  have XX := Lib.hid (And.intro h2 (F1.out.trans f2))
  clear h2 f2
  go_wp2_with fail
  go_ret2
  exact ⟨rfl, XX.out.1, XX.out.2⟩

/-- What Read ends with. -/
def RdR (w : World) (r : Int × List Nat) (e : Ending) (w' : World) : Prop :=
  if r.1 = 0 then ∃ A c, e = .returned (.tuple #[.slice A r.2.length c, .int .i64 0]) ∧ w'.ownsRow w.heap.size 5 1 (.slice A r.2.length c) r.2.length (byts r.2)
  else e = .returned (.tuple #[.slice none 0 0, .int .i64 r.1])
set_option maxHeartbeats 16000000 in
theorem sread_any (h : SlS w wr P V K) (a n : Nat) (hn : 1 ≤ n) (hn2 : n ≤ 8192) (han : a + n ≤ V.st.blocks.length) (hm : SmallS V.st n) :
    Calls Try.prog 11 #[.pointer (some ⟨P.s, 0, none⟩), .agg #[.int .i64 (a : Int), .int .i64 (n : Int)]] wr fun e w' => RdR wr ((V.st.rds a n).1, (V.st.rds a n).2.1) e w' ∧ SlS w w' P { V with st := (V.st.rds a n).2.2 } K ∧ Far K wr w' := by
  have hbl := hm.b
  obtain ⟨W, hW⟩ : ∃ W, wr.alloc (.cells #[.int .i64 (a : Int), .int .i64 (n : Int)] 33) = W := ⟨_, rfl⟩
  obtain ⟨x, hx⟩ : ∃ x, wr.heap.size = x := ⟨_, rfl⟩
  have hb : Below wr.heap.size wr W := by rw [← hW]; exact (Below.refl _ _).alloc (Nat.le_refl _) _
  have hB : Blk W x 33 #[.int .i64 (a : Int), .int .i64 (n : Int)] := by rw [← hW, ← hx]; exact Blk.new _ _ _
  have h1 := h.new hb (Y := fun b => b = x) (fun b hb => by subst hb; exact ⟨Nat.le_of_eq hx, hB.lt⟩)
  have HH := shas_any h1 (a : Int) (n : Int) (by unfold I64; omega) hm.b
  rw [show hasB V.st.blocks.length (a : Int) (n : Int) = true by unfold hasB; rw [decide_eq_true_eq]; omega] at HH
  have x0 : W.cell? ⟨x, 0, none⟩ = some (.int .i64 (a : Int)) := hB.cell 0
  have x1 : W.cell? ⟨x, 1, none⟩ = some (.int .i64 (n : Int)) := hB.cell 1
  obtain ⟨s, hs⟩ : ∃ s, s = P.s := ⟨_, rfl⟩
  have SS := Lib.hid hs
  rw [← hs] at HH ⊢
  have HB := Lib.hid HH
  have F1 := Lib.hid (h.step hb).2
  have HX := Lib.hid hB
  have HM := Lib.hid hm
  have HK := Lib.hid (show ∀ b, K b ∨ b = x → b < W.heap.size from fun b hb => h1.lt hb)
  have HW := Lib.hid (show w.heap.size ≤ W.heap.size from h1.bel.size)
  have HWR := Lib.hid (show wr.heap.size ≤ W.heap.size from hb.size)
  obtain ⟨i0, hi0, hz0, hs0, hb0⟩ := byte_parts (P := Try.prog) (e := 5) (by kernel_rfl)
  obtain ⟨R, hR⟩ : ∃ R, R = V.st.rds a n := ⟨_, rfl⟩
  have HR := Lib.hid hR
  rw [← hR]
  obtain ⟨B0, hB0⟩ : ∃ B0, B0 = W.heap.size := ⟨_, rfl⟩
  have HB0 := Lib.hid hB0
  have hab : a + n < 1000000 := by omega
  clear hb hB h1 h hs HH hm hR hB0 han hbl
  go_enter Try.func11, Try.ntmps11
  go_wp2_with fail
  refine HB.out.mono ?_
  rintro e w2 ⟨rfl, h2, f2⟩
  have H2 := Lib.hid h2
  have F2 := Lib.hid f2
  have hx2 := f2.blk (g := x) (.inr rfl) HX.out
  have x0' : w2.cell? ⟨x, 0, none⟩ = some (.int .i64 (a : Int)) := hx2.cell 0
  have x1' : w2.cell? ⟨x, 1, none⟩ = some (.int .i64 (n : Int)) := hx2.cell 1
  clear h2 f2 hx2
  go_wp2_with fail
  go_loopw [6, 20] (fun v6 v20 wr => ∃ (j : Nat) (A : Option Addr) (c : Nat), v6 = .slice A (V.st.rds a j).2.1.length c ∧ v20 = .int .i64 (j : Int) ∧ j ≤ n ∧ (V.st.rds a j).1 = 0 ∧ (V.st.rds a j).2.1.length ≤ 64 * j ∧
      wr.ownsRow B0 5 1 (.slice A (V.st.rds a j).2.1.length c) (V.st.rds a j).2.1.length (byts (V.st.rds a j).2.1) ∧ SlS w wr P { V with st := (V.st.rds a j).2.2 } (fun b => (K b ∨ b = x) ∨ (Value.slice A (V.st.rds a j).2.1.length c).ownBlock = some b) ∧ Far (fun b => K b ∨ b = x) W wr) (fun _ v _ => n - (RowKit.intOf v).toNat)
  case atStart =>
    exact ⟨0, none, 0, rfl, rfl, Nat.zero_le _, rfl, Nat.le_refl _, World.ownsRow_nil _ _ _ _, H2.out.mono fun b hb => hb.elim id fun h => by simp [Value.ownBlock] at h, F2.out⟩
  case round =>
    obtain ⟨j, A, c, rfl, rfl, hj, hw0, hlen, hown, hS, hF⟩ := hrel
    have hxu := hF.blk (g := x) (.inr rfl) HX.out
    by_cases hjn : j < n
    · have y0 : decide ((j : Int) < (n : Int)) = true := by rw [decide_eq_true_eq]; omega
      have y0' : decide (j < n) = true := by rw [decide_eq_true_eq]; exact hjn
      obtain ⟨aj, haj⟩ : ∃ aj, aj = a + j := ⟨_, rfl⟩
      have e3 : IntKind.i64.wrap ((a : Int) + (j : Int)) = (aj : Int) := by rw [IntKind.wrap_i64]; omega
      have RD := sl_dread hS.drew ((HM.out.mono (m' := 0 + j) (by omega)).rds) (aj : Int)
      have s0 : wr.cell? ⟨s, 0, none⟩ = some (.pointer (some ⟨P.p, 0, none⟩)) := by rw [SS.out]; exact hS.blk.cell 0
      have xa : wr.cell? ⟨x, 0, none⟩ = some (.int .i64 (a : Int)) := hxu.cell 0
      dsimp only at RD
      obtain ⟨p, hp⟩ : ∃ p, p = P.p := ⟨_, rfl⟩
      rw [← hp] at s0 RD
      have hst : V.st.rds a (j + 1) = (((V.st.rds a j).2.2.read (aj : Int)).1, (if ((V.st.rds a j).2.2.read (aj : Int)).1 = 0 then (V.st.rds a j).2.1 ++ ((V.st.rds a j).2.2.read (aj : Int)).2 else []), (V.st.rds a j).2.2.count 1) := by rw [PSt.rds, if_pos hw0, haj]
      generalize (V.st.rds a j).2.2.read (aj : Int) = q at RD hst
      obtain ⟨r, l'⟩ := q
      dsimp only at RD hst
      have HST := Lib.hid hst
      have RD1 := Lib.hid RD
      have HS := Lib.hid hS
      have HF := Lib.hid hF
      have HO := Lib.hid hown
      have HXU := Lib.hid hxu
      have HP := Lib.hid hp
      generalize hgl : (V.st.rds a j).2.1 = l at *
      generalize hgs : (V.st.rds a j).2.2 = st at *
      have HLn := Lib.hid hlen
      obtain ⟨q, hq⟩ : ∃ q, q = l.length := ⟨_, rfl⟩
      have HQ := Lib.hid hq
      rw [← hq] at HS HO RD1 ⊢
      clear hS hF hw0 haj hst RD hown hxu hp hgl hgs hlen hq
      by_cases hr0 : r = 0
      · have r0 : (r != 0) = false := by simp [hr0]
        go_wp2_with fail
        go_region_held3 (fun v => v.cell? ⟨s, 0, none⟩ = some (.pointer (some ⟨p, 0, none⟩)) ∧ v.cell? ⟨x, 0, none⟩ = some (.int .i64 (a : Int))) (first | exact ⟨s0, xa⟩ | exact ⟨KS.out.1, KS.out.2⟩)
          (first | (go_at_call 32; (refine RD1.out.mono ?_); rintro e w4 ⟨v, rfl, h4, f4, A4, c4, rfl, hc4, hA4, hd4⟩; have KS := Lib.hid (And.intro (show w4.cell? ⟨s, 0, none⟩ = some (.pointer (some ⟨p, 0, none⟩)) by rw [SS.out, HP.out]; exact h4.blk.cell 0) ((f4.blk (g := x) (.inl (.inr rfl)) HXU.out).cell 0)); have H4 := Lib.hid h4; have F4 := Lib.hid f4; have D4 := Lib.hid (And.intro hc4 (And.intro hA4 hd4)); clear h4 f4 hc4 hA4 hd4))
        have S4 := Lib.hid (show Sl w4 w4.heap.size A4 (byts l') from by
          rcases D4.out.2.2 with ⟨h0, _⟩ | ⟨m, h1, _, h3, _, h5, h6⟩
          · rw [h0]; exact .inl rfl
          · exact .inr ⟨m, 0, h1, h5, fun i hi => by rw [Nat.zero_add, h6.cell i, List.getElem?_toArray, List.getElem?_eq_getElem hi]⟩)
        have hl64 : l'.length ≤ 64 := by
          rcases D4.out.2.2 with ⟨h0, _⟩ | ⟨m, _, _, h3, _⟩
          · rw [h0]; exact Nat.zero_le _
          · omega
        have O4 := Lib.hid (own_keep HO.out fun b hb _ => F4.out.2 b (.inr hb))
        have hB4 : B0 ≤ w4.heap.size := by rw [HB0.out]; exact Nat.le_trans HF.out.1 F4.out.1
        have hq2 : q ≤ 524288 := by have := HLn.out; have := HQ.out; omega
        go_wp2_with (at_builtin; refine wpList_append_sl (base := B0) _ rfl (.tmp 38) (.tmp 39) _ rfl Try.underlying22 hi0 hz0 hs0 hb0 rfl rfl O4.out rfl (byts_length l').symm D4.out.2.1 S4.out (byts_one l') (by rw [byts_length]; exact D4.out.1) (by rw [byts_length]; unfold maxLen; omega) (by rw [byts_length]; omega) hB4 ?_; intro v5 w5 g1 g2 g3; obtain ⟨A5, c5, rfl⟩ := own_slice g1; have G1 := Lib.hid g1; have G2 := Lib.hid g2; have G3 := Lib.hid g3; clear g1 g2 g3)
        have e5 : V.st.rds a (j + 1) = (0, l ++ l', st.count 1) := by rw [HST.out, hr0]; rfl
        have hlq : (l ++ l').length = q + (byts l').length := by rw [List.length_append, byts_length, HQ.out]
        have X5 := SlS.grow (v := .slice A q c) (v' := .slice A5 (q + (byts l').length) c5) H4.out G2.out (fun b hb => Nat.le_trans HW.out (by rw [← HB0.out]; exact (O4.out.lt b hb).1)) G3.out (fun b hb => (G1.out.lt b hb).2)
        have Y5 := (HF.out.trans (Far.mono F4.out fun b hb => .inl hb)).grow G2.out HK.out (fun i hi hk => by have := (O4.out.lt i hi).1; have := HK.out i hk; have := HB0.out; omega)
        have G1' := G1.out
        rw [byts_join] at G1'
        have XX := Lib.hid (And.intro e5 (And.intro hlq (And.intro X5 (And.intro Y5 G1'))))
        have hl5 : q ≤ 64 * j := by have := HLn.out; have := HQ.out; omega
        clear e5 hlq X5 Y5 G1'
        go_wp2_with fail
        go_roundw
        case rel =>
          obtain ⟨e5, hlq, X5, Y5, G1'⟩ := XX.out
          refine ⟨j + 1, A5, c5, ?_, by go_num, by omega, by rw [e5], ?_, ?_, ?_, Y5⟩
          · rw [e5]; show _ = Value.slice A5 (l ++ l').length c5; rw [hlq]
          · rw [e5]; show (l ++ l').length ≤ _; rw [hlq, byts_length]; omega
          · rw [e5]; show World.ownsRow _ _ _ _ (.slice A5 (l ++ l').length c5) (l ++ l').length (byts (l ++ l')); rw [hlq]; exact G1'
          · rw [e5]; show SlS _ _ _ _ (fun b => (K b ∨ b = x) ∨ (Value.slice A5 (l ++ l').length c5).ownBlock = some b); rw [hlq]; exact X5
        case measure => simp [RowKit.intOf]; omega
      · have r0 : (r != 0) = true := by simp [hr0]
        go_wp2_with fail
        go_region_held3 (fun v => v.cell? ⟨s, 0, none⟩ = some (.pointer (some ⟨p, 0, none⟩)) ∧ v.cell? ⟨x, 0, none⟩ = some (.int .i64 (a : Int))) (first | exact ⟨s0, xa⟩ | exact ⟨KS.out.1, KS.out.2⟩)
          (first | (go_at_call 32; (refine RD1.out.mono ?_); rintro e w4 ⟨v, rfl, h4, f4, A4, c4, rfl, hc4, hA4, hd4⟩; have KS := Lib.hid (And.intro (show w4.cell? ⟨s, 0, none⟩ = some (.pointer (some ⟨p, 0, none⟩)) by rw [SS.out, HP.out]; exact h4.blk.cell 0) ((f4.blk (g := x) (.inl (.inr rfl)) HXU.out).cell 0)); have H4 := Lib.hid h4; have F4 := Lib.hid f4; have D4 := Lib.hid (And.intro hc4 (And.intro hA4 hd4)); clear h4 f4 hc4 hA4 hd4))
        go_wp2_with fail
        have hstk : V.st.rds a n = V.st.rds a (j + 1) := by
          have := rds_stuck (st := V.st) (a := a) (j := j + 1) (by rw [HST.out]; exact hr0) (n - (j + 1))
          rwa [show j + 1 + (n - (j + 1)) = n by omega] at this
        have hRR : R = (r, [], st.count 1) := by rw [HR.out, hstk, HST.out, if_neg hr0]
        have YY := Lib.hid (And.intro (H4.out.mono (K' := K) fun b hb => .inl (.inl hb)) (Far.mono (F1.out.trans (Far.mono (HF.out.trans (Far.mono F4.out fun b hb => .inl hb)) fun b hb => .inl hb)) fun b hb => hb))
        go_ret2
        rw [hRR]
        refine ⟨?_, YY.out.1, YY.out.2⟩
        unfold RdR
        rw [if_neg hr0]
        rfl
    · have y0 : decide ((j : Int) < (n : Int)) = false := by rw [decide_eq_false_iff_not]; omega
      have y0' : decide (j < n) = false := by rw [decide_eq_false_iff_not]; exact hjn
      have hjn' : j = n := by omega
      subst hjn'
      have hRR : R = V.st.rds a j := HR.out
      have HRR := Lib.hid hRR
      have YY := Lib.hid (And.intro hw0 (And.intro hown (And.intro (hS.mono (K' := K) fun b hb => .inl (.inl hb)) (F1.out.trans (Far.mono hF fun b hb => .inl hb)))))
      generalize hgl : (V.st.rds a j).2.1.length = q at *
      clear hw0 hown hS hF hxu hRR hlen
      go_wp2_with fail
      go_ret2
      obtain ⟨hw0, hown, hS, hF⟩ := YY.out
      rw [HRR.out]
      refine ⟨?_, hS, hF⟩
      unfold RdR
      rw [if_pos hw0]
      dsimp only
      rw [hgl]
      exact ⟨A, c, rfl, World.ownsRow_base hown (by rw [HB0.out]; exact HWR.out)⟩
end
end Go.Proofs.Ytaainefdjbmekaa
