/- CellMany returns true for all arguments; the memory that was there stays as it is. -/
import Derived.Test.YtajcfpldjomceaaCpanics
namespace Go.Proofs.Ytajcfpldjomceaa
open Go.RowKit Vint Go.ChangeShapes Go.WideShapes

/-- A number as the statement cuts it. -/
def cut28 (x : Nat) : Nat := x % 268435456
theorem cut28_lt (x : Nat) : cut28 x < 268435456 := Nat.mod_lt _ (by decide)
def enc (l : List Nat) : List Nat := l.flatMap fun x => vint (cut28 x)
theorem enc_cons (x : Nat) (l : List Nat) : enc (x :: l) = vint (cut28 x) ++ enc l := by unfold enc; rw [List.flatMap_cons]
theorem enc_drop {l : List Nat} {j : Nat} (h : j < l.length) : enc (l.drop j) = vint (cut28 l[j]) ++ enc (l.drop (j + 1)) := by rw [List.drop_eq_getElem_cons h, enc_cons]
theorem enc_take {l : List Nat} {j : Nat} (h : j < l.length) : enc (l.take (j + 1)) = enc (l.take j) ++ vint (cut28 l[j]) := by
  unfold enc
  rw [List.take_succ_eq_append_getElem h, List.flatMap_append]
  simp
theorem enc_len : ∀ l : List Nat, (enc l).length ≤ 4 * l.length
  | [] => by simp [enc]
  | x :: l => by
    rw [enc_cons, List.length_append, List.length_cons]
    have := enc_len l
    have := vint_len (cut28_lt x)
    omega
theorem enc_byte (l : List Nat) : ∀ d ∈ enc l, d < 256 := by
  intro d hd
  unfold enc at hd
  obtain ⟨x, _, hx⟩ := List.mem_flatMap.1 hd
  exact vint_byte _ d hx
/-- How many bytes more a number takes. -/
def more (k : Nat) : Nat := if k = 0 then 0 else (vint k).length
theorem more_pos {k : Nat} (h : 0 < k) : more k = 1 + more (k / 128) := by
  unfold more
  rw [if_neg (by omega)]
  by_cases h1 : k < 128
  · rw [if_pos (by omega), vint_low h1]; rfl
  · rw [if_neg (by omega), vint_high (by omega), List.length_cons]; omega
theorem vint_more (n : Nat) : (vint n).length = 1 + more (n / 128) := by
  by_cases h : n = 0
  · subst h; rw [vint_low (by decide)]; rfl
  · have := more_pos (k := n) (by omega)
    unfold more at this
    rw [if_neg h] at this
    exact this
def u32s (l : List Nat) : List Value := l.map fun (n : Nat) => Value.int .u32 (n : Int)
/-- An argument that is a slice of 32-bit words. -/
theorem u32s_arg {H : Type} {enc : TypeId × Value → H} {P : Program} {w : World} {base : Nat} {r : Reach} {b0 : Nat} {t e : TypeId} {v : Value} {d : DataW H} {p : List MemPlace} (ht : P.underlying t = some (.slice e)) (he : P.underlying e = some (.int .u32)) (hce : P.cellsOf e = 1)
    (hval : Value.okWide P w r b0 t v) (h : DataW.Trod enc P w base (fun _ => true) true t v d p) (hlt : ∀ x ∈ p, x.block < w.heap.size) :
    ∃ (A : Option Addr) (cap : Nat) (l : List Nat), v = .slice A l.length cap ∧ l.length ≤ cap ∧ cap ≤ maxLen ∧ Sl w w.heap.size A (u32s l) ∧ (∀ x ∈ l, x < 4294967296) ∧ (A = none → cap = 0) := by
  obtain ⟨A, cap, zs, e1, e2, e3, e4, e5, e6⟩ := ints_arg ht he hce hval h hlt
  obtain ⟨l, rfl, hl⟩ := nats_of (b := 4294967296) fun z hz => wf_nat32 (e5 z hz)
  refine ⟨A, cap, l, by rw [e1, List.length_map], by simpa using e2, e3, ?_, hl, e6⟩
  unfold u32s
  rw [List.map_map] at e4
  exact e4

set_option maxRecDepth 4000 in
set_option maxHeartbeats 2000000 in
theorem many1_any {w : World} {B R L p O c : Nat} {A : Option Addr} {l : List Nat} (h : Rd w B R L (enc l) 0) (hl : ∀ x ∈ l, x < 4294967296) (hlen : l.length ≤ 300) (hp : Blk w p 54 #[.slice A l.length c]) (hO : Blk w O 4 #[.bool true]) (hsl : Sl w p A (u32s l)) (hpB : p < B) (hOB : O < B) (hpO : p < O) :
    Calls Try.prog 33 #[.pointer (some ⟨R, 0, none⟩), .pointer (some ⟨p, 0, none⟩), .pointer (some ⟨O, 0, none⟩)] w fun e w' =>
      e = .returned (.tuple #[]) ∧ Rd w' B R L [] 0 ∧ Chg (FX (fun b => b = O) R L) w w' ∧ Blk w' O 4 #[.bool true] := by
  have hB := h.bR
  have hBL := h.bL
  go_enter Try.func33, Try.ntmps33
  go_wp2_with fail
  go_loopw [4] (fun v wr => ∃ j : Nat, j ≤ l.length ∧ v = .int .i64 j ∧ Rd wr B R L (enc (l.drop j)) 0 ∧ Chg (FX (fun b => b = O) R L) w wr ∧ Blk wr O 4 #[.bool true]) (fun v _ => l.length - (intOf v).toNat)
  case atStart => exact ⟨0, by omega, rfl, h, Chg.refl _ _, hO⟩
  case round =>
    obtain ⟨j, hj, rfl, hr, hc, ho⟩ := hrel
    have hp1 := hp.keep (hc.block p hp.lt (by rintro (h | h | h) <;> omega))
    have cp := cell_at hp1
    by_cases hlt : j < l.length
    · have hsl1 : Sl wr p A (u32s l) := by
        rcases hsl with h0 | ⟨b, o, e, hb, hcell⟩
        · exact .inl h0
        · refine .inr ⟨b, o, e, hb, fun i hi => ?_⟩
          rw [← hcell i hi]
          exact World.cell?_of_block (hc.block b (by have := hp.lt; omega) (by rintro (h | h | h) <;> omega))
      obtain ⟨b, o, rfl, hb, hcell⟩ := hsl1.at_ (i := j) (by simpa [u32s] using hlt)
      have cj : wr.cell? ⟨b, o + j, none⟩ = some (.int .u32 (l[j] : Int)) := by
        have := hcell j (by simpa [u32s] using hlt)
        simpa [u32s] using this
      have q1 : decide (j < l.length) = true := by simpa using hlt
      have ha := and_u32 l[j] (hl _ (List.getElem_mem _))
      have Hd := Lib.hid (enc_drop hlt)
      have hm := cut28_lt l[j]
      change bits BinOp.and IntKind.u32 (l[j] : Int) 268435455 = ((cut28 l[j] : Nat) : Int) at ha
      generalize cut28 l[j] = m at *
      generalize l[j] = x at *
      have c1 := rnum_ok hr (by rw [Hd.out, num_vint _ hm])
      have q2 : decide ((enc (l.drop (j + 1))).length < (enc (l.drop j)).length) = true := by
        rw [Hd.out, List.length_append]
        have := vint_pos m
        simp
        omega
      have hdr : (enc (l.drop j)).drop (num (enc (l.drop j))).2.1 = enc (l.drop (j + 1)) := by rw [Hd.out, num_vint _ hm]; simp
      rw [hdr, show (num (enc (l.drop j))).1 = m by rw [Hd.out, num_vint _ hm]] at c1
      have Hl := Lib.hid (rleft_any hr)
      have C1 := Lib.hid c1
      have Hc := Lib.hid hc
      have Ho := Lib.hid ho
      have Hp1 := Lib.hid hp1
      have hbB : b < wr.heap.size := by have := hp1.lt; omega
      clear hr hc ho hp1 hcell hsl1 c1 hdr h hp hO hsl
      generalize enc (l.drop j) = E0 at *
      generalize hE1 : enc (l.drop (j + 1)) = E1 at *
      have HE1 := Lib.hid hE1
      clear hE1
      go_wp2_with fail
      refine Hl.out.mono ?_
      rintro e w' ⟨rfl, rfl⟩
      go_wp2_with fail
      refine C1.out.mono ?_
      rintro e w2 ⟨rfl, h2, hc2⟩
      have hp2 := Hp1.out.keep (hc2.block p Hp1.out.lt (by rintro (h | h) <;> omega))
      have ho2 := Ho.out.keep (hc2.block O Ho.out.lt (by rintro (h | h) <;> omega))
      have cj2 : w2.cell? ⟨b, o + j, none⟩ = some (.int .u32 (x : Int)) := (World.cell?_of_block (hc2.block b hbB (by rintro (h | h) <;> omega))).trans cj
      have cp2 := cell_at hp2
      have co2 := cell_at ho2
      have fo2 := ho2.frozen 0
      have L2 := Lib.hid (rleft_any h2)
      have H2 := Lib.hid h2
      have Hc2 := Lib.hid hc2
      have Ho2 := Lib.hid ho2
      clear h2 hc2 ho2 hp2 cj cp C1 Hl
      go_wp2_with fail
      refine L2.out.mono ?_
      rintro e w' ⟨rfl, rfl⟩
      go_wp2_with fail
      have hcx : Chg (fun b => b = O) w' (w'.setCell ⟨O, 0, none⟩ (.bool true)) := (Chg.refl (fun b => b = O) w').setCell (p := ⟨O, 0, none⟩) (.inl rfl) _
      go_roundw
      case rel => exact ⟨j + 1, by omega, by go_num, by rw [HE1.out]; exact H2.out.keep hcx (fun b hb => by omega), (Hc.out.then_ (Hc2.out.mono fun _ h => .inr h)).then_ (hcx.mono fun _ h => .inl h), by simpa using Ho2.out.set_ 0 (.bool true)⟩
      case measure => simp [intOf]; omega
    · have hjl : j = l.length := by omega
      subst hjl
      have q1 : decide (l.length < l.length) = false := by simp
      rw [List.drop_length] at hr
      have hr : Rd wr B R L [] 0 := hr
      have Hl := Lib.hid (rleft_any hr)
      have H2 := Lib.hid hr
      have Hc := Lib.hid hc
      have Ho := Lib.hid ho
      have co := cell_at ho
      have fo := ho.frozen 0
      clear hr hc ho hlt hj hp1 h hp hO hsl
      go_wp2_with fail
      refine Hl.out.mono ?_
      rintro e w' ⟨rfl, rfl⟩
      go_wp2_with fail
      have hcx : Chg (fun b => b = O) w' (w'.setCell ⟨O, 0, none⟩ (.bool true)) := (Chg.refl (fun b => b = O) w').setCell (p := ⟨O, 0, none⟩) (.inl rfl) _
      refine bodyPost_end (results_none rfl _ _ _) rfl ?_
      exact ⟨rfl, H2.out.keep hcx (fun b hb => by omega), Hc.out.then_ (hcx.mono fun _ h => .inl h), by simpa using Ho.out.set_ 0 (.bool true)⟩

/-- What the statement's Read leaves. -/
def ManyR (O : Nat) (w : World) (e : Ending) (w' : World) : Prop := e = .returned (.int .i64 0) ∧ Blk w' O 4 #[.bool true] ∧ Chg (fun b => b = O) w w'
theorem many_read {w : World} {p O c B : Nat} {A A1 : Option Addr} {c1 : Nat} {l : List Nat} (hl : ∀ x ∈ l, x < 4294967296) (hlen : l.length ≤ 300) (hp : Blk w p 54 #[.slice A l.length c]) (hO : Blk w O 4 #[.bool true]) (hsl : Sl w p A (u32s l)) (hpO : p < O)
    (hs1 : Sl w B A1 (byts (enc l))) (hB : B ≤ w.heap.size) (hc1 : (enc l).length ≤ c1) (hA1 : A1 = none → c1 = 0) :
    Calls Try.prog 16 #[.slice A1 (enc l).length c1, .func (.func 33) #[] #[.pointer (some ⟨p, 0, none⟩), .pointer (some ⟨O, 0, none⟩)]] w (ManyR O w) := by
  have hpl := hp.lt
  have hOl := hO.lt
  have hel := enc_len l
  refine (read_ret A1 c1 (enc l) w hs1 hB hc1 hA1 (enc_byte l) (by omega) 33 #[.pointer (some ⟨p, 0, none⟩), .pointer (some ⟨O, 0, none⟩)] (fun a w => by kernel_rfl) (fun b => b = O) (fun b hb => by omega) [] (fun w => Blk w O 4 #[.bool true]) ?_ false 0 rfl rfl).mono ?_
  · intro w1 R hr hb
    exact many1_any hr hl hlen (hp.keep (hb.block p hp.lt)) (hO.keep (hb.block O hO.lt)) (hsl.below (hb.mono (by omega))) (by omega) (by omega) hpO
  · rintro e w' ⟨rfl, w2, h3, hk, hch⟩
    exact ⟨rfl, h3.keep (hk.block O h3.lt (by omega)), hch⟩

set_option maxRecDepth 4000 in
set_option maxHeartbeats 4000000 in
theorem many_any (A : Option Addr) (cap : Nat) (l : List Nat) (hl : ∀ x ∈ l, x < 4294967296) (hlen : l.length ≤ 9223372036854775807) (w : World) (hsl : Sl w w.heap.size A (u32s l)) :
    Calls Try.prog 8 #[.slice A l.length cap] w fun e w' => e = .returned (.bool true) ∧ Below w.heap.size w w' := by
  have hmf : ∀ (fn : Fn) (first cap : Array Value) (w : World), (Instr.makeFunc fn first cap).run Try.prog w = .ok (.func fn first cap) w := fun _ _ _ _ => rfl
  have b0 : Below w.heap.size w (w.alloc (.cells #[.slice A l.length cap] 54)) := (Below.refl _ _).alloc (Nat.le_refl _) _
  have Ha := Lib.hid (cawake (w.alloc (.cells #[.slice A l.length cap] 54)))
  by_cases h300 : 300 < l.length
  · have q : decide (300 < (l.length : Int)) = true := by simp; omega
    go_enter Try.func8, Try.ntmps8
    go_wp2_with fail
    refine Ha.out.mono ?_
    rintro e w1 ⟨rfl, b1⟩
    have hp1 : Blk w1 w.heap.size 54 #[.slice A l.length cap] := (Blk.new w _ _).keep (b1.block _ (by simp))
    have cp := cell_at hp1
    have B1 := Lib.hid (b0.trans (b1.mono b0.size))
    clear b1 b0 Ha hp1
    go_wp2_with fail
    go_ret
    exact ⟨rfl, B1.out⟩
  have q : decide (300 < (l.length : Int)) = false := by simp; omega
  go_enter Try.func8, Try.ntmps8
  go_wp2_with fail
  refine Ha.out.mono ?_
  rintro e w1 ⟨rfl, b1⟩
  have hp1 : Blk w1 w.heap.size 54 #[.slice A l.length cap] := (Blk.new w _ _).keep (b1.block _ (by simp))
  have cp := cell_at hp1
  have hb1 := b0.trans (b1.mono b0.size)
  have hz1 := hb1.size
  have B2 := Lib.hid (hb1.alloc hz1 (.cells #[.slice none 0 0] 26))
  have H2 := Lib.hid (wn_new w1 hz1)
  have Hp2 := Lib.hid (hp1.alloc (.cells #[.slice none 0 0] 26))
  clear b1 b0 Ha hp1 hb1
  go_wp2_with fail
  generalize hW : w1.alloc (.cells #[.slice none 0 0] 26) = W at *
  clear hW
  generalize w1.heap.size = g at *
  go_loopw [4, 5] (fun s v wr => ∃ j : Nat, j ≤ l.length ∧ v = .int .i64 j ∧ s = .int .i64 (((enc (l.take j)).length : Nat) : Int) ∧ Wn wr w.heap.size g (enc (l.take j)) ∧ Below w.heap.size w wr ∧ Blk wr w.heap.size 54 #[.slice A l.length cap]) (fun _ v _ => l.length - (intOf v).toNat)
  case atStart => exact ⟨0, by omega, rfl, rfl, H2.out, B2.out, Hp2.out⟩
  case round =>
    obtain ⟨j, hj, rfl, rfl, hw, hb, hp⟩ := hrel
    clear H2 B2 Hp2
    have cp := cell_at hp
    have hel := enc_len (l.take j)
    rw [List.length_take] at hel
    by_cases hlt : j < l.length
    · obtain ⟨b, o, rfl, hbB, hcell⟩ := (hsl.below hb).at_ (i := j) (by simpa [u32s] using hlt)
      have cj : wr.cell? ⟨b, o + j, none⟩ = some (.int .u32 (l[j] : Int)) := by
        have := hcell j (by simpa [u32s] using hlt)
        simpa [u32s] using this
      have q1 : decide (j < l.length) = true := by simpa using hlt
      have ha := and_u32 l[j] (hl _ (List.getElem_mem _))
      have Ht := Lib.hid (enc_take hlt)
      have hm := cut28_lt l[j]
      change bits BinOp.and IntKind.u32 (l[j] : Int) 268435455 = ((cut28 l[j] : Nat) : Int) at ha
      generalize cut28 l[j] = m at *
      generalize l[j] = x at *
      have N := Lib.hid (wn_num hw m hm (by omega))
      have Hb := Lib.hid hb
      have Hp := Lib.hid hp
      have hvm := vint_more m
      have hvl := vint_len hm
      clear hw hb hp hcell
      generalize hE0 : enc (l.take j) = E0 at *
      have HE0 := Lib.hid hE0
      clear hE0
      go_wp2_with fail
      refine N.out.mono ?_
      rintro e w2 ⟨rfl, h2, o2⟩
      have H2 := Lib.hid h2
      have B2 := Lib.hid (Hb.out.trans (o2.below Hb.out.size))
      have Hp2 := Lib.hid (o2.kind _ _ _ Hp.out (by decide) (by decide))
      clear h2 o2 N cj cp
      go_wp2_with fail
      have hML : (E0 ++ vint m).length = E0.length + (vint m).length := by rw [List.length_append]
      generalize hM : E0 ++ vint m = M at *
      have HM := Lib.hid hM
      clear hM
      go_loop [4, 7] (fun s v => ∃ k t : Nat, v = .int .i64 k ∧ s = .int .i64 t ∧ t + more k = M.length ∧ k < 268435456) (fun _ v => (intOf v).toNat)
      case atStart => exact ⟨m / 128, E0.length + 1, by go_num, by go_num, by omega, by omega⟩
      case round =>
        obtain ⟨k, t, rfl, rfl, hkt, hk⟩ := hrel
        by_cases h0 : 0 < k
        · have q3 : decide (0 < k) = true := by simpa using h0
          have hmp := more_pos h0
          go_wp2_with fail
          go_round
          case rel => exact ⟨k / 128, t + 1, by go_num, by go_num, by omega, by omega⟩
          case measure => simp [intOf]; omega
        · have hk0 : k = 0 := by omega
          subst hk0
          have htm : t = M.length := by unfold more at hkt; rw [if_pos rfl] at hkt; exact hkt
          subst htm
          have N2 := Lib.hid (wn_out H2.out (by omega))
          clear hkt h0 hk hvm hvl hML ha
          go_wp2_with fail
          refine N2.out.mono ?_
          rintro e w3 ⟨A3, c3, rfl, hown, b3⟩
          have H3 := Lib.hid (H2.out.below b3)
          have B3 := Lib.hid (B2.out.trans (b3.mono B2.out.size))
          have Hp3 := Lib.hid (Hp2.out.keep (b3.block _ Hp2.out.lt))
          clear hown b3
          go_wp2_with fail
          exact ⟨⟨j + 1, by omega, by go_num, by rw [Ht.out], by rw [Ht.out]; exact H3.out, B3.out, Hp3.out⟩, by simp [intOf]; omega⟩
    · have hjl : j = l.length := by omega
      subst hjl
      have q1 : decide (l.length < l.length) = false := by simp
      rw [List.take_length] at hw hel
      have hel2 := enc_len l
      have hz := hb.size
      have hOb : Blk (wr.alloc (.cells #[.bool true] 4)) wr.heap.size 4 #[.bool true] := Blk.new _ _ _
      have N := Lib.hid (wn_out (hw.alloc (.cells #[.bool true] 4)) (by omega))
      have hp2 := hp.alloc (.cells #[.bool true] 4)
      have hpl := hp.lt
      have B2 := Lib.hid (hb.alloc hz (.cells #[.bool true] 4))
      have HO := Lib.hid hOb
      have HP := Lib.hid hp2
      generalize hE : (enc (l.take l.length)).length = K at *
      clear hE hw hb hp hOb hp2 hlt hj
      go_wp2_with fail
      generalize hW2 : wr.alloc (.cells #[.bool true] 4) = W2 at *
      clear hW2
      generalize wr.heap.size = O at *
      refine N.out.mono ?_
      rintro e w3 ⟨A3, c3, rfl, hown, b3⟩
      have R3 := Lib.hid (many_read hl (by omega) (HP.out.keep (b3.block _ HP.out.lt)) (HO.out.keep (b3.block _ HO.out.lt)) (hsl.below (B2.out.trans (b3.mono B2.out.size))) (by omega) (Sl.of_own hown) (Nat.le_refl _) (own_len hown) (own_none hown))
      have B3 := Lib.hid (B2.out.trans (b3.mono B2.out.size))
      clear hown b3 N
      go_wp2_with fail
      refine R3.out.mono ?_
      rintro e w4 ⟨rfl, hO4, hc4⟩
      have c4 := cell_at hO4
      have B4 := Lib.hid (B3.out.trans (hc4.below B3.out.size fun b hb => by omega))
      clear hO4 hc4
      go_wp2_with fail
      go_ret
      exact ⟨rfl, B4.out⟩
end Go.Proofs.Ytajcfpldjomceaa
