/- The statements' Node and Back: a node copied from one type to the other. -/
import Derived.Test.YtaainefdjbmekaaSbci
import Derived.Deep.RegionLaw
import Derived.Deep.RegionHeldLaw
import Derived.Deep.DeepCutAuto
namespace Go.Proofs.Ytaainefdjbmekaa
open Go.RowKit
theorem step_append3 {P : Program} (w : World) {ops : Array Oper} {o : Oper} {a : Act} {K : Act → World → Prop} {Q : Exit → Act → World → Prop} {E : Prop} (hgd : o.guard = none) (s x : Operand) (t : TypeId)
    (ho : o.op = .call { callee := .builtin .append, args := #[s, x], argTypes := #[t, t] })
    {base : Nat} {e : TypeId} {i : TypeInfo} {z : Value} {size bytes : Nat} (ht : P.underlying t = some (.slice e)) (hi : P.info? e = some i) (hz : i.zero = some z) (hs : i.size = size) (hb : i.bytes = bytes) (hzs : z.cells.size = size) (hsz : 0 < size)
    {v : Value} {n : Nat} {xs : List Value} (hv : a.eval s = v) (hown : w.ownsRow base e size v n xs) {B : Nat} {A : Option Addr} {m c : Nat} {news : List Value} (hx : a.eval x = .slice A m c) (hl : news.length = m * size) (hA : A = none → c = 0) (hmc : m ≤ c) (hr : Sl w B A news) (h1 : ∀ u ∈ news, u.oneCell' = true)
    (h63 : n + m ≤ maxLen) (hbytes : (n + m) * bytes ≤ 140737488355328) (hbase : base ≤ w.heap.size)
    (h : ∀ v' w', w'.ownsRow base e size v' (n + m) (xs ++ news) → w.grownBy w' v.ownBlock → (v'.ownBlock = v.ownBlock ∨ v'.ownBlock = some w.heap.size) → K (a.put o.dst v') w') :
    if Region.wanted o (yielded ops a.tmps) = true then Oper.wp P o a w K Q else E := by
  rw [if_pos (by simp [Region.wanted, hgd])]
  obtain ⟨v', w', hrun, h2, h3, h4⟩ := run_append_sls (P := P) w (ty := o.type) ht hi hz hs hb hzs hsz hown hl hA hmc hr h1 h63 hbytes hbase
  unfold Oper.wp execOp
  simp only [ho, resolve, invoke, builtin, Sem.run_bind, Sem.run_pure, Result.andThen_ok, List.map_toArray, List.map_cons, List.map_nil, hv, hx, hrun]
  exact h v' w' h2 h3 h4
theorem sl_threeN {w : World} {a b c : Value} {t : TypeId} : Sl (w.alloc (.cells #[a, b, c] t)).drew (w.heap.size + 1) (some ⟨w.heap.size, 0, none⟩) [a, b, c] := .inr ⟨w.heap.size, 0, rfl, by omega, fun i hi => by
  have : i < 3 := hi
  have : i = 0 ∨ i = 1 ∨ i = 2 := by omega
  rcases this with rfl | rfl | rfl <;> exact (Blk.new w t _).cell _⟩
/-- A copy half way: i children are copied. -/
structure CpI (Wl wr : World) (B M xb : Nat) (T TK : TypeId) (a0 a1 a2 a3 u : Value) (i : Nat) (l : List Nd.T3) : Prop where
  blk : Blk wr xb T #[a0, a1, a2, a3, u]
  row : wr.ownsRow M TK 3 u i (tcs (l.take i))
  agr : ∀ b, b < M → b ≠ xb → wr.heap[b]? = Wl.heap[b]?
  size : M ≤ wr.heap.size
  bel : Below B Wl wr
  xM : xb < M
  Bx : B ≤ xb
section
variable {Wl wr w6 : World} {B M xb i c6 : Nat} {T TK : TypeId} {a0 a1 a2 a3 u : Value} {l : List Nd.T3} {A6 : Option Addr}
theorem CpI.ne (h : CpI Wl wr B M xb T TK a0 a1 a2 a3 u i l) : u.ownBlock ≠ some xb := fun e => by have := (h.row.lt xb e).1; have := h.xM; omega
theorem CpI.step (h : CpI Wl wr B M xb T TK a0 a1 a2 a3 u i l) (hi : i < l.length) (o : Obj) {x1 x2 x3 : Int} (hx : Nd.t3 l i = (x1, x2, x3))
    (hown : w6.ownsRow M TK 3 (.slice A6 (i + 1) c6) (i + 1) (tcs (l.take i) ++ [.int .i64 x1, .int .i64 x2, .int .i64 x3])) (hg : ((wr.alloc o).drew).grownBy w6 u.ownBlock) (hb : (Value.slice A6 (i + 1) c6).ownBlock = u.ownBlock ∨ (Value.slice A6 (i + 1) c6).ownBlock = some ((wr.alloc o).drew).heap.size) :
    w6.frozen? ⟨xb, 4, none⟩ = false ∧ w6.cell? ⟨xb, 4, none⟩ = some u ∧ Hid (CpI Wl (w6.setCell ⟨xb, 4, none⟩ (.slice A6 (i + 1) c6)) B M xb T TK a0 a1 a2 a3 (.slice A6 (i + 1) c6) (i + 1) l) := by
  have hxw : xb < wr.heap.size := Nat.lt_of_lt_of_le h.xM h.size
  have hs : wr.heap.size ≤ ((wr.alloc o).drew).heap.size := by show _ ≤ (wr.alloc o).heap.size; simp
  have hblk : Blk w6 xb T #[a0, a1, a2, a3, u] := ((h.blk.alloc o).keep (w' := (wr.alloc o).drew) rfl).grown hg h.ne
  have hne6 : (Value.slice A6 (i + 1) c6).ownBlock ≠ some xb := by
    rcases hb with e | e <;> rw [e]
    · exact h.ne
    · intro h'; injection h' with h'; omega
  have e3 : tcs (l.take (i + 1)) = tcs (l.take i) ++ [.int .i64 x1, .int .i64 x2, .int .i64 x3] := by
    rw [Nd.take_getD l i (0, 0, 0) hi, tcs_app, show l.getD i (0, 0, 0) = (x1, x2, x3) from hx]
    rfl
  have hnew : ∀ b, u.ownBlock = some b → M ≤ b := fun b hb => (h.row.lt b hb).1
  have hagr : ∀ b, b < wr.heap.size → u.ownBlock ≠ some b → w6.heap[b]? = wr.heap[b]? := fun b hlt hne => by
    rw [hg.block b (by omega) (fun e => hne e.symm)]
    exact Below.heap_alloc wr o b hlt
  refine ⟨hblk.frozen 4, hblk.cell 4, Lib.hid ⟨hblk.set_ 4 _, ?_, fun b hbM hbx => ?_, ?_, ?_, h.xM, h.Bx⟩⟩
  · rw [e3]
    exact own_far hown hne6 _
  · rw [Below.heap_setCell w6 _ _ b hbx, hagr b (Nat.lt_of_lt_of_le hbM h.size) (fun e => by have := hnew b e; omega)]
    exact h.agr b hbM hbx
  · have : w6.heap.size ≤ (w6.setCell ⟨xb, 4, none⟩ (.slice A6 (i + 1) c6)).heap.size := by simp [World.setCell]
    have := hg.size
    have := h.size
    omega
  · have h6 : Below B Wl w6 := by
      have h1 := h.bel.alloc (Nat.le_trans h.Bx (Nat.le_of_lt hxw)) o
      exact (h1.drew).grown hg (by have := h.Bx; omega) (fun k hk => by have := hnew k hk; have := h.Bx; have := h.xM; omega)
    exact h6.trans (Below.setCell (Below.refl _ _) (p := ⟨xb, 4, none⟩) h.Bx _)
end
/-- The load of the children's slice, under a name: it is not to be taken first. -/
def ldBack : Op := Op.load 53 (.tmp 21)
theorem own_slW' {w : World} {B n c size : Nat} {e : TypeId} {A : Option Addr} {xs : List Value} (h : w.ownsRow B e size (.slice A n c) n xs) : Sl w w.heap.size A xs := by
  rcases h.2 with ⟨h', h0⟩ | ⟨g, cap, cur, h', hg, hg2, hc1, hc2, hc3, hc4⟩
  · have := h.1
    subst h0
    exact .inl (List.eq_nil_of_length_eq_zero (by simpa using this))
  · injection h' with hA _ hc
    subst hA
    subst hc
    have hl := h.1
    refine .inr ⟨g, 0, rfl, (h.lt g rfl).2, fun i hi => ?_⟩
    rw [Nat.zero_add, h.cellAt i (by omega), List.getElem?_eq_getElem]
theorem kid_parts : ∃ i, Try.prog.info? 105 = some i ∧ i.zero = some (.agg #[.int .i64 0, .int .i64 0, .int .i64 0]) ∧ i.size = 3 ∧ i.bytes = 24 := by
  have h : (Try.prog.info? 105).map (fun i => (i.zero, i.size, i.bytes)) = some (some (.agg #[.int .i64 0, .int .i64 0, .int .i64 0]), 3, 24) := by kernel_rfl
  obtain ⟨i, hi, hh⟩ := Option.map_eq_some_iff.1 h
  simp only [Prod.mk.injEq] at hh
  exact ⟨i, hi, hh.1, hh.2.1, hh.2.2⟩
set_option maxRecDepth 8000 in
set_option maxHeartbeats 16000000 in
theorem back_any {w : World} {v : Value} {n : Nd.N} (h : NdAt w w.heap.size v n) (hfw : FewOk n) : Calls Try.prog 22 #[v] w fun e w' => ∃ v', e = .returned v' ∧ NdAt w' w'.heap.size v' n ∧ Below w.heap.size w w' := by
  obtain ⟨A1, c1, A2, c2, A3, c3, A4, c4, rfl, hf⟩ := h
  obtain ⟨W0, hW0⟩ : ∃ W, w.alloc (.cells #[.int .i64 n.h, .slice A1 n.ks.length c1, .slice A2 n.ps.length c2, .slice A3 n.gs.length c3, .slice A4 n.cs.length c4] 62) = W := ⟨_, rfl⟩
  obtain ⟨W, hW⟩ : ∃ W, W0.alloc (.cells #[.int .i64 0, .slice none 0 0, .slice none 0 0, .slice none 0 0, .slice none 0 0] 55) = W := ⟨_, rfl⟩
  obtain ⟨k1, e1⟩ : ∃ k, k = n.ks.length := ⟨_, rfl⟩
  obtain ⟨k2, e2⟩ : ∃ k, k = n.ps.length := ⟨_, rfl⟩
  obtain ⟨k3, e3⟩ : ∃ k, k = n.gs.length := ⟨_, rfl⟩
  obtain ⟨k4, e4⟩ : ∃ k, k = n.cs.length := ⟨_, rfl⟩
  obtain ⟨b, hb⟩ : ∃ b, w.heap.size = b := ⟨_, rfl⟩
  obtain ⟨rb, hrb⟩ : ∃ b, W0.heap.size = b := ⟨_, rfl⟩
  obtain ⟨bx, hb1⟩ := nd_box hW0
  have by_ : Blk W rb 55 #[.int .i64 0, .slice none 0 0, .slice none 0 0, .slice none 0 0, .slice none 0 0] := by rw [← hW, ← hrb]; exact Blk.new _ _ _
  have hb2 : Below W0.heap.size W0 W := by rw [← hW]; exact (Below.refl _ _).alloc (Nat.le_refl _) _
  have bx := bx.keep (w' := W) (hb2.block _ bx.lt)
  have hbl : Below w.heap.size w W := hb1.trans (hb2.mono hb1.size)
  rw [← e1, ← e2, ← e3, ← e4] at hW0 bx ⊢
  rw [hb] at bx hbl hf ⊢
  obtain ⟨k0, e0⟩ : ∃ k, k = n.h := ⟨_, rfl⟩
  rw [← e0] at hW0 bx ⊢
  have E0 := Lib.hid e0
  clear e0
  have x0 : W.cell? ⟨b, 0, none⟩ = some (.int .i64 k0) := bx.cell 0
  have x1 : W.cell? ⟨b, 1, none⟩ = some (.slice A1 k1 c1) := bx.cell 1
  have x2 : W.cell? ⟨b, 2, none⟩ = some (.slice A2 k2 c2) := bx.cell 2
  have x3 : W.cell? ⟨b, 3, none⟩ = some (.slice A3 k3 c3) := bx.cell 3
  have x4 : W.cell? ⟨b, 4, none⟩ = some (.slice A4 k4 c4) := bx.cell 4
  have E1 := Lib.hid e1
  have E2 := Lib.hid e2
  have E3 := Lib.hid e3
  have E4 := Lib.hid e4
  obtain ⟨f1, f2, f3, f4⟩ := hfw
  rw [← e4] at f4
  obtain ⟨xb, hxb⟩ : ∃ b, W.heap.size = b := ⟨_, rfl⟩
  obtain ⟨W2, hW2⟩ : ∃ W2, W.alloc (.cells #[.int .i64 k0, .slice A1 k1 c1, .slice A2 k2 c2, .slice A3 k3 c3, .slice none 0 0] 55) = W2 := ⟨_, rfl⟩
  have bz : Blk W2 xb 55 #[.int .i64 k0, .slice A1 k1 c1, .slice A2 k2 c2, .slice A3 k3 c3, .slice none 0 0] := by rw [← hW2, ← hxb]; exact Blk.new _ _ _
  have fz2 : W2.frozen? ⟨xb, 4, none⟩ = false := bz.frozen 4
  have cz2 : W2.cell? ⟨xb, 4, none⟩ = some (.slice none 0 0) := bz.cell 4
  obtain ⟨W3, hW3⟩ : ∃ W3, W2.setCell ⟨xb, 4, none⟩ (.slice none 0 0) = W3 := ⟨_, rfl⟩
  obtain ⟨M, hM⟩ : ∃ M, W3.heap.size = M := ⟨_, rfl⟩
  have hb3 : Below W.heap.size W W3 := by rw [← hW3]; exact Below.setCell (by rw [← hW2]; exact (Below.refl _ _).alloc (Nat.le_refl _) _) (p := ⟨xb, 4, none⟩) (by rw [hxb]; exact Nat.le_refl _) _
  have hMx : M = xb + 1 := by rw [← hM, ← hW3, ← hW2, ← hxb]; simp [World.setCell]
  have hbx : b < xb := by rw [← hxb]; exact bx.lt
  have hrx : rb < xb := by rw [← hxb]; exact by_.lt
  have hrb2 : b < rb := by rw [← hrb, ← hb, ← hW0]; simp
  have C0 := Lib.hid (show CpI W3 W3 b M xb 55 105 (.int .i64 k0) (.slice A1 k1 c1) (.slice A2 k2 c2) (.slice A3 k3 c3) (.slice none 0 0) 0 n.cs from
    ⟨by rw [← hW3]; exact bz.set_ 4 _, World.ownsRow_nil _ _ _ _, fun _ _ _ => rfl, by omega, Below.refl _ _, by omega, by omega⟩)
  have bx2 := Lib.hid (bx.keep (w' := W3) (hb3.block _ bx.lt))
  have by2 := Lib.hid (by_.keep (w' := W3) (hb3.block _ by_.lt))
  have HB2 := Lib.hid (hbl.trans (hb3.mono (by rw [hxb]; omega)))
  have HF := Lib.hid hf
  clear e1 e2 e3 e4 hb1 hb2 hb3 hbl bx by_ hf f1 f2 f3 bz hM
  go_enter Try.func22, Try.ntmps22
  go_wp2_with fail
  clear x0 x1 x2 x3 x4 fz2 cz2
  obtain ⟨i0, hi0, hz0, hs0, hb0⟩ := kid_parts
  go_loopw [4] (fun v wr => ∃ (i : Nat) (u : Value), v = .int .i64 (i : Int) ∧ i ≤ k4 ∧ CpI W3 wr b M xb 55 105 (.int .i64 k0) (.slice A1 k1 c1) (.slice A2 k2 c2) (.slice A3 k3 c3) u i n.cs) (fun v _ => k4 - (intOf v).toNat)
  case atStart => exact ⟨0, _, rfl, Nat.zero_le _, C0.out⟩
  case round =>
    obtain ⟨i, u, rfl, hi, hC⟩ := hrel
    have HC := Lib.hid hC
    obtain ⟨A5, c5, rfl⟩ := own_slice hC.row
    have hbM : b < M := by omega
    have bw : Blk wr b 62 #[.int .i64 k0, .slice A1 k1 c1, .slice A2 k2 c2, .slice A3 k3 c3, .slice A4 k4 c4] := bx2.out.keep (hC.agr b hbM (by omega))
    have x4 : wr.cell? ⟨b, 4, none⟩ = some (.slice A4 k4 c4) := bw.cell 4
    have y4 : wr.cell? ⟨xb, 4, none⟩ = some (.slice A5 i c5) := hC.blk.cell 4
    clear hC bw
    by_cases hik : i < k4
    · have z0 : decide ((i : Int) < (k4 : Int)) = true := by rw [decide_eq_true_eq]; omega
      have z0' : decide (i < k4) = true := by rw [decide_eq_true_eq]; exact hik
      have hki : (i : Int) < (k4 : Int) := by omega
      have hil : i < n.cs.length := by rw [← E4.out]; exact hik
      obtain ⟨g, o, rfl, hg, -⟩ := HF.out.cs.three hil
      have hgc := HF.out.cs.below (HB2.out.trans HC.out.bel)
      obtain ⟨g', o', q, -, p1, p2, p3⟩ := hgc.three hil
      injection q with q
      injection q with q q'
      subst q; subst q'
      obtain ⟨p, hp⟩ : ∃ p, p = Nd.t3 n.cs i := ⟨_, rfl⟩
      have Hp := Lib.hid hp
      rw [← hp] at p1 p2 p3
      clear hp hgc
      obtain ⟨a, c, e⟩ := p
      dsimp only at p1 p2 p3
      have S1 := Lib.hid (fun (A6 : Option Addr) (c6 : Nat) (w6 : World) => HC.out.step (w6 := w6) (A6 := A6) (c6 := c6) hil (.cells #[.int .i64 a, .int .i64 c, .int .i64 e] 105) Hp.out.symm)
      have Own := Lib.hid (show ((wr.alloc (.cells #[.int .i64 a, .int .i64 c, .int .i64 e] 105)).drew).ownsRow M 105 3 (.slice A5 i c5) i (tcs (n.cs.take i)) from own_keep HC.out.row fun b' _ hlt => Below.heap_alloc wr _ b' hlt)
      have hMs : M ≤ ((wr.alloc (.cells #[.int .i64 a, .int .i64 c, .int .i64 e] 105)).drew).heap.size := by have := HC.out.size; show M ≤ (wr.alloc _).heap.size; simp; omega
      clear hil
      go_wp2_with fail
      have Kp := Lib.hid (fun (X : World) (hX : ∀ b', b' < M → b' ≠ xb → X.heap[b']? = wr.heap[b']?) => show X.cell? ⟨b, 4, none⟩ = some (.slice (some ⟨g, o, none⟩) k4 c4) ∧ X.cell? ⟨g, o + i * 3, none⟩ = some (.int .i64 a) ∧ X.cell? ⟨g, o + i * 3 + 1, none⟩ = some (.int .i64 c) ∧ X.cell? ⟨g, o + i * 3 + 2, none⟩ = some (.int .i64 e) from by
        have e1 := hX b (by omega) (by omega)
        have e2 := hX g (by omega) (by omega)
        unfold World.cell? at x4 p1 p2 p3 ⊢
        rw [e1, e2]
        exact ⟨x4, p1, p2, p3⟩)
      have hw0 : ∀ b', b' < M → b' ≠ xb → (wr.alloc (.cells #[.int .i64 a, .int .i64 c, .int .i64 e] 105)).drew.heap[b']? = wr.heap[b']? := fun b' h _ => Below.heap_alloc wr _ b' (Nat.lt_of_lt_of_le h HC.out.size)
      have hmu : ∀ b', (Value.slice A5 i c5).ownBlock = some b' → M ≤ b' := fun b' h => (HC.out.row.lt b' h).1
      have Hmu := Lib.hid hmu
      have Hw0 := Lib.hid hw0
      clear hw0 hmu
      have y4a : wr.drew.cell? ⟨xb, 4, none⟩ = some (.slice A5 i c5) := y4
      have y4b : (wr.alloc (.cells #[.int .i64 a, .int .i64 c, .int .i64 e] 105)).cell? ⟨xb, 4, none⟩ = some (.slice A5 i c5) := by rw [World.cell?_alloc_lt _ _ _ (World.block_lt_of_cell? _ _ y4)]; exact y4
      have y4c : (wr.alloc (.cells #[.int .i64 a, .int .i64 c, .int .i64 e] 105)).drew.cell? ⟨xb, 4, none⟩ = some (.slice A5 i c5) := y4b
      have y4d : (wr.drew.alloc (.cells #[.int .i64 a, .int .i64 c, .int .i64 e] 105)).cell? ⟨xb, 4, none⟩ = some (.slice A5 i c5) := y4b
      have hld : ldBack = Op.load 53 (.tmp 21) := rfl
      rw [← hld]
      go_region_held_law (fun X => X.cell? ⟨b, 4, none⟩ = some (.slice (some ⟨g, o, none⟩) k4 c4) ∧ X.cell? ⟨g, o + i * 3, none⟩ = some (.int .i64 a) ∧ X.cell? ⟨g, o + i * 3 + 1, none⟩ = some (.int .i64 c) ∧ X.cell? ⟨g, o + i * 3 + 2, none⟩ = some (.int .i64 e)) (first | exact ⟨x4, p1, p2, p3⟩ | exact Kp.out _ Hw0.out | exact Kp.out _ (fun b' h _ => Below.heap_alloc wr _ b' (Nat.lt_of_lt_of_le h HC.out.size)) | exact Kp.out _ h6 | exact Kp.out _ h7) (first
        | (refine step_append3 (base := M) _ rfl (.tmp 22) (.tmp 42) _ rfl Try.underlying53 hi0 hz0 hs0 hb0 rfl (by decide) rfl Own.out (m := 1) (news := [.int .i64 a, .int .i64 c, .int .i64 e]) rfl rfl (by simp) (Nat.le_refl _) sl_threeN (by simp [Value.oneCell']) (by unfold maxLen; omega) (by omega) hMs ?_; intro v6 w6 h1 h2 h3; obtain ⟨A6, c6, rfl⟩ := own_slice h1; obtain ⟨fz, y6, C6⟩ := S1.out A6 c6 w6 h1 h2 h3; have h6 : ∀ b', b' < M → b' ≠ xb → w6.heap[b']? = wr.heap[b']? := (fun b' h hne => (h2.block b' (Nat.lt_of_lt_of_le h hMs) (fun q => by have := Hmu.out b' q.symm; omega)).trans (Hw0.out b' h hne)); have h7 : ∀ b', b' < M → b' ≠ xb → (w6.setCell ⟨xb, 4, none⟩ (.slice A6 (i + 1) c6)).heap[b']? = wr.heap[b']? := (fun b' h hne => (Below.heap_setCell w6 _ _ b' hne).trans (h6 b' h hne)); clear h1 h2 h3))
      all_goals
        go_wp2_with fail
        go_roundw
        case rel => exact ⟨i + 1, _, by go_num, by omega, C6.out⟩
        case measure => simp [intOf]; omega
    · have hik' : i = k4 := by omega
      have z0 : decide ((i : Int) < (k4 : Int)) = false := by rw [decide_eq_false_iff_not]; omega
      have z0' : decide (i < k4) = false := by rw [decide_eq_false_iff_not]; exact hik
      have bq := HC.out.blk
      have q0 : wr.cell? ⟨xb, 0, none⟩ = some (.int .i64 k0) := bq.cell 0
      have q1 : wr.cell? ⟨xb, 1, none⟩ = some (.slice A1 k1 c1) := bq.cell 1
      have q2 : wr.cell? ⟨xb, 2, none⟩ = some (.slice A2 k2 c2) := bq.cell 2
      have q3 : wr.cell? ⟨xb, 3, none⟩ = some (.slice A3 k3 c3) := bq.cell 3
      have br : Blk wr rb 55 #[.int .i64 0, .slice none 0 0, .slice none 0 0, .slice none 0 0, .slice none 0 0] := by2.out.keep (HC.out.agr rb (by omega) (by omega))
      clear bq
      have hrne : xb ≠ rb := by omega
      obtain ⟨w1, hw1⟩ : ∃ W, wr.setCell ⟨rb, 0, none⟩ (.int .i64 k0) = W := ⟨_, rfl⟩
      have r1 : Blk w1 rb 55 #[.int .i64 k0, .slice none 0 0, .slice none 0 0, .slice none 0 0, .slice none 0 0] := by rw [← hw1]; exact br.set_ 0 _
      obtain ⟨w2, hw2⟩ : ∃ W, w1.setCell ⟨rb, 1, none⟩ (.slice A1 k1 c1) = W := ⟨_, rfl⟩
      have r2 : Blk w2 rb 55 #[.int .i64 k0, .slice A1 k1 c1, .slice none 0 0, .slice none 0 0, .slice none 0 0] := by rw [← hw2]; exact r1.set_ 1 _
      obtain ⟨w3, hw3⟩ : ∃ W, w2.setCell ⟨rb, 2, none⟩ (.slice A2 k2 c2) = W := ⟨_, rfl⟩
      have r3 : Blk w3 rb 55 #[.int .i64 k0, .slice A1 k1 c1, .slice A2 k2 c2, .slice none 0 0, .slice none 0 0] := by rw [← hw3]; exact r2.set_ 2 _
      obtain ⟨w4, hw4⟩ : ∃ W, w3.setCell ⟨rb, 3, none⟩ (.slice A3 k3 c3) = W := ⟨_, rfl⟩
      have r4 : Blk w4 rb 55 #[.int .i64 k0, .slice A1 k1 c1, .slice A2 k2 c2, .slice A3 k3 c3, .slice none 0 0] := by rw [← hw4]; exact r3.set_ 3 _
      obtain ⟨w5, hw5⟩ : ∃ W, w4.setCell ⟨rb, 4, none⟩ (.slice A5 i c5) = W := ⟨_, rfl⟩
      have r5 : Blk w5 rb 55 #[.int .i64 k0, .slice A1 k1 c1, .slice A2 k2 c2, .slice A3 k3 c3, .slice A5 i c5] := by rw [← hw5]; exact r4.set_ 4 _
      have far5 : ∀ b', b' ≠ rb → w5.heap[b']? = wr.heap[b']? := fun b' h => by
        rw [← hw5, Below.heap_setCell _ _ _ _ h, ← hw4, Below.heap_setCell _ _ _ _ h, ← hw3, Below.heap_setCell _ _ _ _ h, ← hw2, Below.heap_setCell _ _ _ _ h, ← hw1, Below.heap_setCell _ _ _ _ h]
      have sz5 : w5.heap.size = wr.heap.size := by rw [← hw5, ← hw4, ← hw3, ← hw2, ← hw1]; simp [World.setCell]
      have B5 : Below b w w5 := by
        have h0 := HB2.out.trans HC.out.bel
        have hbr : b ≤ rb := by omega
        rw [← hw5, ← hw4, ← hw3, ← hw2, ← hw1]
        exact ((((h0.setCell (p := ⟨rb, 0, none⟩) hbr _).setCell (p := ⟨rb, 1, none⟩) hbr _).setCell (p := ⟨rb, 2, none⟩) hbr _).setCell (p := ⟨rb, 3, none⟩) hbr _).setCell (p := ⟨rb, 4, none⟩) hbr _
      have O5 : w5.ownsRow M 105 3 (.slice A5 i c5) i (tcs (n.cs.take i)) := own_keep HC.out.row fun b' hb' _ => far5 b' (fun e => by have := (HC.out.row.lt b' hb').1; omega)
      have hall : n.cs.take i = n.cs := List.take_of_length_le (by rw [← E4.out]; omega)
      rw [hall] at O5
      have Fin := Lib.hid (show ∃ v', Ending.returned (.agg #[.int .i64 k0, .slice A1 k1 c1, .slice A2 k2 c2, .slice A3 k3 c3, .slice A5 i c5]) = Ending.returned v' ∧ NdAt w5 w5.heap.size v' n ∧ Below b w w5 from by
        have hF := (HF.out.below B5).more (show b ≤ w5.heap.size by rw [← hb]; exact B5.size)
        refine ⟨_, rfl, ⟨A1, c1, A2, c2, A3, c3, A5, c5, by rw [← E0.out, ← E1.out, ← E2.out, ← E3.out, ← E4.out, hik'], hF.ks, hF.ps, hF.gs, ⟨?_, own_none O5, own_slW' O5⟩⟩, B5⟩
        rw [← E4.out, ← hik']
        exact own_len O5)
      have a0 := br.cell 0
      have g0 := br.frozen 0
      have a1 := r1.cell 1
      have g1 := r1.frozen 1
      have a2 := r2.cell 2
      have g2 := r2.frozen 2
      have a3 := r3.cell 3
      have g3 := r3.frozen 3
      have a4 := r4.cell 4
      have g4 := r4.frozen 4
      have v0 : w5.cell? ⟨rb, 0, none⟩ = some (.int .i64 k0) := r5.cell 0
      have v1 : w5.cell? ⟨rb, 1, none⟩ = some (.slice A1 k1 c1) := r5.cell 1
      have v2 : w5.cell? ⟨rb, 2, none⟩ = some (.slice A2 k2 c2) := r5.cell 2
      have v3 : w5.cell? ⟨rb, 3, none⟩ = some (.slice A3 k3 c3) := r5.cell 3
      have v4 : w5.cell? ⟨rb, 4, none⟩ = some (.slice A5 i c5) := r5.cell 4
      clear hik' hall O5 B5 sz5 far5 r1 r2 r3 r4 r5 br hrne
      go_wp2_with fail
      refine bodyPost_ret (v := .agg #[.int .i64 k0, .slice A1 k1 c1, .slice A2 k2 c2, .slice A3 k3 c3, .slice A5 i c5]) ?_ rfl Fin.out
      simp [results, Try.results22]
      go_simp
end Go.Proofs.Ytaainefdjbmekaa
