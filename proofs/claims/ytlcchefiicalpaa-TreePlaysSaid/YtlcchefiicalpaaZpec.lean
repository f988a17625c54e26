/- TreePlays. -/
import Derived.Test.YtlcchefiicalpaaZpdh
import Derived.Test.YtlcchefiicalpaaZpdi
import Derived.Test.YtlcchefiicalpaaZpea
import Derived.Test.YtlcchefiicalpaaZpeb
import Derived.Deep.RegionHeld3
namespace Go.Proofs.Ytlcchefiicalpaa
open Go.RowKit
def ldR6 : Op := Op.load 66 (.tmp 6)
def ldM8 : Op := Op.load 71 (.tmp 8)
theorem rok_right {M : List Nd.N} {k : Nd.T3} {h : Int} {m : List Tr.E} (hr : Tr.RootOk M k h m) : Tr.RightP M k.1 h 0 512 ∧ 0 ≤ h ∧ h < 6 := by
  obtain ⟨hn, rfl, h5, hg, -⟩ := hr
  exact ⟨⟨by omega, by omega, by rw [Int.toNat_natCast]; exact hg⟩, by omega, by omega⟩
theorem rok_mor {st st' : Tr.MSt} {n : Nat} {k : Nd.T3} {h : Int} {m : List Tr.E} (hr : Tr.RootOk st.L k h m) (hm : Tr.Mor st st' n) : Tr.RootOk st'.L k h m := by
  obtain ⟨l, h1, -⟩ := hm.L
  rw [h1]
  exact hr.app l
theorem own_new {w : World} {B size n : Nat} {e : TypeId} (C : List Value) (hB : B ≤ w.heap.size) (h3 : C.length = n * size) (hm : n ≤ maxLen) : (w.alloc (.cells C.toArray e)).ownsRow B e size (.slice (some ⟨w.heap.size, 0, none⟩) n n) n C :=
  ⟨h3, .inr ⟨w.heap.size, n, C.toArray, rfl, hB, heap_alloc_new w _, Nat.le_refl _, hm, by simpa using h3, by simp [h3, List.take_of_length_le]⟩⟩
theorem pm_cells {B p rb mb n d n1 n2 : Nat} {w0 w : World} {X : Nat → Prop} {st : Tr.MSt} {a0 a1 a2 a3 u1 u2 : Value} {D : Option Addr} {xs c1 c2 : List Value} {K : World → Prop} (h : Pm B w0 p w X st rb mb #[a0, a1, a2, a3] D n d xs u1 n1 c1 u2 n2 c2 K) :
    w.cell? ⟨rb, 0, none⟩ = some a0 ∧ w.cell? ⟨rb, 1, none⟩ = some a1 ∧ w.cell? ⟨rb, 2, none⟩ = some a2 ∧ w.cell? ⟨rb, 3, none⟩ = some a3 ∧ w.cell? ⟨mb, 0, none⟩ = some (.slice D n d) := ⟨h.br.cell 0, h.br.cell 1, h.br.cell 2, h.br.cell 3, h.bm.cell 0⟩
theorem getD_app1 {α : Type} {l : List α} {x z : α} {j : Nat} (hj : j < l.length) : (l ++ [x]).getD j z = l.getD j z := by
  rw [List.getD_eq_getElem?_getD, List.getElem?_append_left hj, ← List.getD_eq_getElem?_getD]
theorem getD_app2 {α : Type} {l : List α} {x z : α} : (l ++ [x]).getD l.length z = x := by
  rw [List.getD_eq_getElem?_getD, List.getElem?_append_right (Nat.le_refl _), Nat.sub_self]
  rfl
theorem lw_box5 {B p bx : Nat} {w0 W w s : World} {X X' : Nat → Prop} {st st' : Tr.MSt} {K : World → Prop} {t : TypeId} {C : Array Value} (h : LW B w0 p W X st K) (hr : MRep p w X' st') (k : Stp W X w X') (hbx : W.heap.size ≤ bx) (hc : Chg (fun b => b = bx) w s) (hb : Blk s bx t C) (hX' : ¬ X' bx) : LW B w0 p s X' st' fun u => K u ∧ Blk u bx t C := by
  have h1 := h.stp hr k
  have h2 : Fast (fun b => X' b ∨ b = bx) w K := h.kp.new k fun b hb => by have hb : b = bx := hb; omega
  exact lw_chg h1 hc hX' (Nat.le_trans h.sz hbx) (Fast.and_ (fun u ku => h2 u ((hc.mono fun _ e => .inr e).then_ (ku.mono fun _ hx => .inl hx))) (Fast.blk hb hX'))
theorem blk_st5p {V : World} {xb : Nat} {t : TypeId} {z0 z1 z2 z3 z4 : Value} (h : Blk V xb t #[z0, z1, z2, z3, z4]) (v0 v1 v2 v3 v4 : Value) :
    ∃ s1 s2 s3 s4 s5, V.setCell ⟨xb, 0, none⟩ v0 = s1 ∧ s1.setCell ⟨xb, 1, none⟩ v1 = s2 ∧ s2.setCell ⟨xb, 2, none⟩ v2 = s3 ∧ s3.setCell ⟨xb, 3, none⟩ v3 = s4 ∧ s4.setCell ⟨xb, 4, none⟩ v4 = s5 ∧
      (V.frozen? ⟨xb, 0, none⟩ = false ∧ s1.frozen? ⟨xb, 1, none⟩ = false ∧ s2.frozen? ⟨xb, 2, none⟩ = false ∧ s3.frozen? ⟨xb, 3, none⟩ = false ∧ s4.frozen? ⟨xb, 4, none⟩ = false) ∧
      (V.cell? ⟨xb, 0, none⟩ = some z0 ∧ s1.cell? ⟨xb, 1, none⟩ = some z1 ∧ s2.cell? ⟨xb, 2, none⟩ = some z2 ∧ s3.cell? ⟨xb, 3, none⟩ = some z3 ∧ s4.cell? ⟨xb, 4, none⟩ = some z4) ∧
      Blk s5 xb t #[v0, v1, v2, v3, v4] ∧ Chg (fun b => b = xb) V s5 := by
  refine ⟨_, _, _, _, _, rfl, rfl, rfl, rfl, rfl, ?_⟩
  have r1 : Blk (V.setCell ⟨xb, 0, none⟩ v0) xb t #[v0, z1, z2, z3, z4] := h.set_ 0 _
  have r2 : Blk ((V.setCell ⟨xb, 0, none⟩ v0).setCell ⟨xb, 1, none⟩ v1) xb t #[v0, v1, z2, z3, z4] := r1.set_ 1 _
  have r3 : Blk (((V.setCell ⟨xb, 0, none⟩ v0).setCell ⟨xb, 1, none⟩ v1).setCell ⟨xb, 2, none⟩ v2) xb t #[v0, v1, v2, z3, z4] := r2.set_ 2 _
  have r4 : Blk ((((V.setCell ⟨xb, 0, none⟩ v0).setCell ⟨xb, 1, none⟩ v1).setCell ⟨xb, 2, none⟩ v2).setCell ⟨xb, 3, none⟩ v3) xb t #[v0, v1, v2, v3, z4] := r3.set_ 3 _
  have r5 : Blk (((((V.setCell ⟨xb, 0, none⟩ v0).setCell ⟨xb, 1, none⟩ v1).setCell ⟨xb, 2, none⟩ v2).setCell ⟨xb, 3, none⟩ v3).setCell ⟨xb, 4, none⟩ v4) xb t #[v0, v1, v2, v3, v4] := r4.set_ 4 _
  refine ⟨⟨h.frozen 0, r1.frozen 1, r2.frozen 2, r3.frozen 3, r4.frozen 4⟩, ⟨h.cell 0, r1.cell 1, r2.cell 2, r3.cell 3, r4.cell 4⟩, r5, ?_⟩
  exact (((((Chg.refl (fun b => b = xb) V).setCell (p := ⟨xb, 0, none⟩) (.inl rfl) _).setCell (p := ⟨xb, 1, none⟩) (.inl rfl) _).setCell (p := ⟨xb, 2, none⟩) (.inl rfl) _).setCell (p := ⟨xb, 3, none⟩) (.inl rfl) _).setCell (p := ⟨xb, 4, none⟩) (.inl rfl) _
/-- What Get answers at any key. -/
theorem tget_all {p : Nat} {w : World} {X : Nat → Prop} {st : Tr.MSt} {k : Nd.T3} {h : Int} {m : List Tr.E} (hr : MRep p w X st) (hb : st.bl = 0) (hk : Tr.RootOk st.L k h m) (key : Int) : Calls Try.prog 37 #[memV p, Tr.rootV k h, .int .i64 key] w fun e w' => ∃ X' st' x b er, e = .returned (.tuple #[ev x, .bool b, .int .i64 er]) ∧ MRep p w' X' st' ∧ Stp w X w' X' ∧ Tr.KS st st' ∧ ((0 ≤ key ∧ key < 512) ∧ er = 0 ∧ b = (Tr.get m key).isSome ∧ x = (Tr.get m key).getD Tr.z ∨ ¬ (0 ≤ key ∧ key < 512) ∧ er = 1 ∧ b = false) := by
  by_cases h0 : 0 ≤ key ∧ key < 512
  · refine (tget hr hb hk h0).mono fun e w' he => ?_
    obtain ⟨X', st', e1, e2, e3, e4⟩ := he
    rcases ho : Tr.get m key with _ | x
    · rw [ho] at e1
      exact ⟨X', st', Tr.z, false, 0, e1, e2, e3, e4, .inl ⟨h0, rfl, rfl, rfl⟩⟩
    · rw [ho] at e1
      exact ⟨X', st', x, true, 0, e1, e2, e3, e4, .inl ⟨h0, rfl, rfl, rfl⟩⟩
  · refine (get_any (memI p) (key := key) hr hk.kr).mono fun e w' he => ?_
    obtain ⟨X', e1, e2, -, e3⟩ := he.2 h0
    exact ⟨X', st, Tr.z, false, 1, e3, e1, e2, ⟨rfl, rfl, rfl, rfl⟩, .inr ⟨h0, rfl, rfl⟩⟩
set_option maxRecDepth 8000 in
set_option maxHeartbeats 16000000 in
theorem tplays_any {A Aa : Option Addr} {c ca : Nat} {l : List Tr.Dv} {ks : List Int} (w : World) (hD : DvsAt w w.heap.size A l) (hok : ∀ y ∈ l, y.ok w w.heap.size ∧ y.few) (hml : l.length ≤ maxLen) (hk : SlC w w.heap.size Aa ca ks.length (ivs ks)) : Calls Try.prog 9 #[.slice A l.length c, .slice Aa ks.length ca] w fun e w' => e = .returned (.bool true) ∧ Below w.heap.size w w' := by
  have HL := Lib.hid (fun (u : World) (hu : Below w.heap.size w u) => (⟨by
    rcases hD with h | ⟨b, o, e, hb, hc⟩
    · exact .inl h
    · exact .inr ⟨b, o, e, Nat.lt_of_lt_of_le hb hu.size, fun i hi j v hv => (hu.cell (p := ⟨b, o + i * 3 + j, none⟩) hb).trans (hc i hi j v hv)⟩, fun y hy => ⟨(((hok y hy).1.p.below hu).more hu.size), (((hok y hy).1.k.below hu).more hu.size)⟩⟩ : DvsAt u u.heap.size A l ∧ ∀ y ∈ l, y.ok u u.heap.size))
  have HK := Lib.hid (fun (u : World) (hu : Below w.heap.size w u) => (hk.below hu).more hu.size)
  have HF := Lib.hid (fun y hy => (hok y hy).2)
  have Hml := Lib.hid hml
  have HAw := Lib.hid (tawake_any w)
  obtain ⟨B, hB⟩ : ∃ B, w.heap.size = B := ⟨_, rfl⟩
  obtain ⟨q, hq⟩ : ∃ q, l.length = q := ⟨_, rfl⟩
  have Hq := Lib.hid hq
  obtain ⟨r, hr⟩ : ∃ q, ks.length = q := ⟨_, rfl⟩
  have Hr := Lib.hid hr
  rw [hB, hq, hr]
  rw [hB] at HL HK
  rw [hr] at HK
  clear hD hok hml hk hq hr
  go_enter Try.func9, Try.ntmps9
  go_upto_region 3 with (go_at_call 30; (with_reducible refine HAw.out.mono ?_); rintro e wa ⟨rfl, ba⟩; (have BA := Lib.hid ba); clear ba)
  have Bad := Lib.hid (show Below B w wa by rw [← hB]; exact BA.out)
  have SZa := Lib.hid (show B ≤ wa.heap.size from by rw [← hB]; exact BA.out.size)
  have HF1 := Lib.hid (dfew_any (w := wa) (c := c) (HL.out wa Bad.out).1 HF.out Hml.out)
  rw [Hq.out] at HF1
  have FEW : ∀ b : Bool, decide (Tr.FewP l) = b → Calls Try.prog 31 #[.slice A q c] wa (fun e w' => e = .returned (.bool b) ∧ Below wa.heap.size wa w') := fun b hb => by rw [← hb]; exact HF1.out
  by_cases hP : Tr.FewP l
  · have HF2 := Lib.hid (FEW true (decide_eq_true hP))
    clear FEW HF1
    have Few1 := Lib.hid hP
    clear hP
    have r0 : (0 : Int) ≤ (r : Int) := by omega
    by_cases h50 : 50 < r
    · have z1 : decide ((50 : Int) < (r : Int)) = true := by rw [decide_eq_true_eq]; omega
      have z1' : decide (50 < r) = true := decide_eq_true h50
      go_wp2_with (go_at_call 31; (with_reducible refine HF2.out.mono ?_); rintro e w2 ⟨rfl, b2⟩; (have B2 := Lib.hid b2); clear b2)
      go_ret
      exact ⟨rfl, Bad.out.trans (B2.out.mono SZa.out)⟩
    have z1 : decide ((50 : Int) < (r : Int)) = false := by rw [decide_eq_false_iff_not]; omega
    have z1' : decide (50 < r) = false := decide_eq_false h50
    go_upto_region 5 with (go_at_call 31; (with_reducible refine HF2.out.mono ?_); rintro e w3 ⟨rfl, b3⟩; (have B3 := Lib.hid (Bad.out.trans (b3.mono SZa.out))); (have S3 := Lib.hid (Nat.le_trans SZa.out b3.size)); clear b3)
    clear z1 z1' HF2
    go_upto_region 6 with fail
    obtain ⟨p, hp⟩ : ∃ p, w3.heap.size = p := ⟨_, rfl⟩
    obtain ⟨W1, hW1⟩ : ∃ W, w3.alloc (.cells #[.slice none 0 0, .int .i64 0, .int .i64 0, .int .i64 0, .int .i64 0] 64) = W := ⟨_, rfl⟩
    rw [hW1]
    try rw [hp]
    have N1 := Lib.hid (show LW B w p W1 (fun b => b = p) ⟨[], 0, 0, 0, 0⟩ (fun _ => True) from by
      have hs := S3.out
      subst hp
      rw [← hW1]
      exact ⟨mrep_new w3, B3.out.trans ((below_alloc1 w3 _).mono hs), fun b hb => by have hb : b = w3.heap.size := hb; omega, by simp; omega, fun _ _ => trivial⟩)
    have H4 := Lib.hid (tempty N1.out.rep Tr.calm0 (by decide))
    unfold memV at H4
    clear hp hW1
    go_upto_region 7 with (go_at_call 32; (with_reducible refine H4.out.mono ?_); rintro e w4 ⟨X4, s4, k4, h4, rfl, r4, t4, ⟨q4, m4, l4⟩, o4⟩; unfold Tr.rootV; dsimp only; (have N4 := Lib.hid (N1.out.stp r4 t4)); (have O4 := Lib.hid o4); (have C4 := Lib.hid ((Tr.calm0.mor m4).mono (show 0 + q4 ≤ 1 by omega))); clear r4 t4 m4 o4)
    obtain ⟨rb, hrb⟩ : ∃ b, w4.heap.size = b := ⟨_, rfl⟩
    obtain ⟨W4, hW4⟩ : ∃ W, w4.alloc (.cells #[.int .i64 k4.1, .int .i64 k4.2.1, .int .i64 k4.2.2, .int .i64 h4] 66) = W := ⟨_, rfl⟩
    rw [hW4, hrb]
    have N5 := Lib.hid (by have := N4.out.new 66 #[.int .i64 k4.1, .int .i64 k4.2.1, .int .i64 k4.2.2, .int .i64 h4]; rw [hW4, hrb] at this; exact this)
    have G5 := Lib.hid (show ¬ X4 rb ∧ B ≤ rb from ⟨by rw [← hrb]; exact N4.out.fresh, by rw [← hrb]; exact N4.out.sz⟩)
    go_upto_region 8 with fail
    obtain ⟨mb, hmb⟩ : ∃ b, W4.heap.size = b := ⟨_, rfl⟩
    obtain ⟨W5, hW5⟩ : ∃ W, W4.alloc (.cells #[.slice none 0 0] 71) = W := ⟨_, rfl⟩
    try rw [hW5]
    try rw [hmb]
    have P5 := Lib.hid (show Pm B w p W5 X4 s4 rb mb #[.int .i64 k4.1, .int .i64 k4.2.1, .int .i64 k4.2.2, .int .i64 h4] none ([] : List Tr.E).length 0 (evs ([] : List Tr.E)) (.slice none 0 0) (0) (rcs []) (.slice none 0 0) (0) (mcs []) (Kf []) from by
      have n6 := N5.out.new 71 #[.slice none 0 0]
      rw [hW5, hmb] at n6
      have hrl := N5.out.now.2.lt
      rw [hmb] at hrl
      have hfm : ¬ X4 mb := by rw [← hmb]; exact N5.out.fresh
      exact ⟨n6.rep, n6.bel, n6.ge, n6.sz, n6.now.1.2, n6.now.2, World.ownsRow_nil _ _ _ _, World.ownsRow_nil _ _ _ _, fun b e => (by cases e), fun b e => (by cases e), fun b e => (by cases e), fun u _ => SlC.none_ u _, fun u _ x hx => (by cases hx), G5.out.1, hfm, hrl, G5.out.2⟩)
    clear hmb hW5 hrb hW4 H4 N1 N4 N5 G5
    go_upto_region 10 with fail
    go_cut [9, 10] from 43 to 46 (fun v9 v10 wx => Pm B w p wx X4 s4 rb mb #[.int .i64 k4.1, .int .i64 k4.2.1, .int .i64 k4.2.2, .int .i64 h4] none ([] : List Tr.E).length 0 (evs ([] : List Tr.E)) v9 (1) (rcs [(k4, h4)]) v10 (1) (mcs [(none, 0, [])]) (Kf [(none, 0, [])]))
    case first =>
      have KS := Lib.hid (fun (V : World) (hV : Below W5.heap.size W5 V) => show (fun u : World => u.cell? ⟨rb, 0, none⟩ = some (.int .i64 k4.1) ∧ u.cell? ⟨rb, 1, none⟩ = some (.int .i64 k4.2.1) ∧ u.cell? ⟨rb, 2, none⟩ = some (.int .i64 k4.2.2) ∧ u.cell? ⟨rb, 3, none⟩ = some (.int .i64 h4) ∧ u.cell? ⟨mb, 0, none⟩ = some (.slice none 0 0)) V from by
        have f := P5.out.below hV
        exact ⟨f.br.cell 0, f.br.cell 1, f.br.cell 2, f.br.cell 3, f.bm.cell 0⟩)
      have HB1 := Lib.hid (show Below W5.heap.size W5 (W5.alloc (.cells #[.int .i64 k4.1, .int .i64 k4.2.1, .int .i64 k4.2.2, .int .i64 h4] 66)) from below_alloc1 W5 _)
      have HB2 := Lib.hid (show Below W5.heap.size W5 (W5.alloc (.cells #[.slice none 0 0] 71)) from below_alloc1 W5 _)
      have hlt := P5.out.bm.lt
      have QA := Lib.hid ((((P5.out.grow1 (own_new (rcs [(k4, h4)]) hlt rfl (by decide)) (World.grownBy_alloc W5 _ _) (.inr rfl)).grow2 (own_new (w := W5.alloc (.cells #[.int .i64 k4.1, .int .i64 k4.2.1, .int .i64 k4.2.2, .int .i64 h4] 66)) (mcs [(none, 0, [])]) (Nat.le_trans hlt HB1.out.size) rfl (by decide)) (World.grownBy_alloc _ _ _) (.inr rfl)).below (Below.refl _ _).drew).imp (P := Kf [(none, 0, [])]) fun u _ hs x hx => by rw [List.mem_singleton] at hx; subst hx; exact hs)
      have QB := Lib.hid ((((P5.out.grow2 (own_new (mcs [(none, 0, [])]) hlt rfl (by decide)) (World.grownBy_alloc W5 _ _) (.inr rfl)).grow1 (own_new (w := W5.alloc (.cells #[.slice none 0 0] 71)) (rcs [(k4, h4)]) (Nat.le_trans hlt HB2.out.size) rfl (by decide)) (World.grownBy_alloc _ _ _) (.inr rfl)).below (Below.refl _ _).drew).imp (P := Kf [(none, 0, [])]) fun u _ hs x hx => by rw [List.mem_singleton] at hx; subst hx; exact hs)
      have e1 : (W5.alloc (.cells #[.int .i64 k4.1, .int .i64 k4.2.1, .int .i64 k4.2.2, .int .i64 h4] 66)).heap.size = W5.heap.size + 1 := by simp
      have e2 : (W5.alloc (.cells #[.slice none 0 0] 71)).heap.size = W5.heap.size + 1 := by simp
      rw [e1] at QA
      rw [e2] at QB
      clear e1 e2
      go_region_held3 (fun u => u.cell? ⟨rb, 0, none⟩ = some (.int .i64 k4.1) ∧ u.cell? ⟨rb, 1, none⟩ = some (.int .i64 k4.2.1) ∧ u.cell? ⟨rb, 2, none⟩ = some (.int .i64 k4.2.2) ∧ u.cell? ⟨rb, 3, none⟩ = some (.int .i64 h4) ∧ u.cell? ⟨mb, 0, none⟩ = some (.slice none 0 0)) (first | exact KS.out _ (Below.refl _ _).drew | exact KS.out _ HB1.out.drew | exact KS.out _ HB2.out.drew | exact KS.out _ (HB1.out.trans ((below_alloc1 _ (.cells #[.slice none 0 0] 71)).mono HB1.out.size)).drew | exact KS.out _ (HB2.out.trans ((below_alloc1 _ (.cells #[.int .i64 k4.1, .int .i64 k4.2.1, .int .i64 k4.2.2, .int .i64 h4] 66)).mono HB2.out.size)).drew) (fail)
      all_goals go_wp2_with fail
      all_goals go_meet
      all_goals first
        | exact QA.out
        | exact QB.out
    case rest =>
      have P10 := Lib.hid hcut
      clear hcut P5
      go_wp2_with fail
      go_loopw [9, 10, 11, 12] (fun v9 v10 v11 _ wx => ∃ i : Nat, v11 = .int .i64 (i : Int) ∧ i ≤ q ∧ ∃ X st k h m D d rs ml, Pm B w p wx X st rb mb #[.int .i64 k.1, .int .i64 k.2.1, .int .i64 k.2.2, .int .i64 h] D m.length d (evs m) v9 (i + 1) (rcs rs) v10 (i + 1) (mcs ml) (Kf ml) ∧ Tr.RootOk st.L k h m ∧ Tr.Calm st (1 + 15 * Tr.sumD (l.take (i)) + 6 * (i)) ∧ m.length ≤ Tr.sumD (l.take (i)) ∧ rs.length = i + 1 ∧ ml.length = i + 1 ∧ (∀ j, j < i + 1 → Tr.RootOk st.L (rs.getD j rtZ).1 (rs.getD j rtZ).2 (ml.getD j mlZ).2.2) ∧ (∀ x ∈ ml, x.2.2.length ≤ 300)) (fun _ _ v11 _ _ => q - (intOf v11).toNat)
      case atStart => exact ⟨0, rfl, Nat.zero_le _, X4, s4, k4, h4, [], none, 0, [(k4, h4)], [(none, 0, [])], P10.out, O4.out, C4.out, Nat.zero_le _, rfl, rfl, fun j hj => by obtain rfl : j = 0 := (by omega); exact O4.out, fun x hx => by rw [List.mem_singleton] at hx; subst hx; exact Nat.zero_le _⟩
      case round =>
        obtain ⟨i, rfl, hi, X, st, k, h, m, D, d, rs, ml, hp, ho, hc, hm, hrl, hmll, hold, hmx⟩ := hrel
        have P := Lib.hid hp
        have O := Lib.hid ho
        have C := Lib.hid hc
        have Hm := Lib.hid hm
        have Hrl := Lib.hid hrl
        have Hml2 := Lib.hid hmll
        have Hold := Lib.hid hold
        have Hmx := Lib.hid hmx
        clear hp ho hc hm hrl hmll hold hmx P10
        by_cases hiq : i < q
        · have z0 : decide ((i : Int) < (q : Int)) = true := by rw [decide_eq_true_eq]; omega
          have z0' : decide (i < q) = true := decide_eq_true hiq
          have hqi : (i : Int) < (q : Int) := by omega
          have hil : i < l.length := by rw [Hq.out]; exact hiq
          obtain ⟨y, hy⟩ : ∃ y, l[i] = y := ⟨_, rfl⟩
          obtain ⟨bD, oD, hAe, -⟩ := (HL.out _ P.out.bel).1.at_ hil
          subst hAe
          have KS := Lib.hid (fun (V : World) (hV : Below B w V) => show (fun u : World => u.cell? ⟨bD, oD + i * 3, none⟩ = some (.bool y.d.cut) ∧ u.cell? ⟨bD, oD + i * 3 + 1, none⟩ = some (.slice y.P y.d.put.length y.cp) ∧ u.cell? ⟨bD, oD + i * 3 + 2, none⟩ = some (.slice y.K y.d.keys.length y.ck)) V from by
            obtain ⟨b', o', e, -, c0, c1, c2⟩ := (HL.out V hV).1.at_ hil
            injection e with e
            injection e with e1 e2
            subst e1
            subst e2
            rw [hy] at c0 c1 c2
            exact ⟨c0, c1, c2⟩)
          have Hsn := Lib.hid (show Tr.sumD (l.take (i + 1)) = Tr.sumD (l.take i) + y.d.n ∧ Tr.sumD (l.take (i + 1)) ≤ 300 ∧ q ≤ 30 from by
            refine ⟨by rw [Tr.sum_next hil, hy], Nat.le_trans (Tr.sum_take l (i + 1)) Few1.out.2, ?_⟩
            have := Few1.out.1
            rw [Hq.out] at this
            exact this)
          have HDo := Lib.hid (fun (V : World) (hV : Below wr.heap.size wr V) => show Calls Try.prog 33 #[.pointer (some ⟨p, 0, none⟩), Tr.rootV k h, .agg #[.slice D m.length d], .agg #[.bool y.d.cut, .slice y.P y.d.put.length y.cp, .slice y.K y.d.keys.length y.ck]] V (DoO p V X (Gm rb mb u9 u10) st (15 * y.d.n + 6) (y.d.on m)) from by
            have hs := Hsn.out
            have hm := Hm.out
            have f := P.out.below hV
            exact do_any y f.rep C.out O.out (fun b hb => (f.gx hb).2.1) f.sl (fun u hu => by rw [← hy]; exact (HL.out u (f.bel_of hu)).2 _ (List.getElem_mem hil)) (by omega) (by omega) (by omega))
          unfold Tr.rootV at HDo
          obtain ⟨x0, x1, x2, x3, y0⟩ := pm_cells P.out
          clear hy hil
          have hq30 : q ≤ 30 := Hsn.out.2.2
          go_upto_region 15 with fail
          go_cut [12] from 53 to 64 (fun v12 wx => v12 = .bool true ∧ ∃ X st k h m D d, Pm B w p wx X st rb mb #[.int .i64 k.1, .int .i64 k.2.1, .int .i64 k.2.2, .int .i64 h] D m.length d (evs m) u9 (i + 1) (rcs rs) u10 (i + 1) (mcs ml) (Kf ml) ∧ Tr.RootOk st.L k h m ∧ Tr.Calm st (1 + 15 * Tr.sumD (l.take (i + 1)) + 6 * (i + 1)) ∧ m.length ≤ Tr.sumD (l.take (i + 1)) ∧ (∀ j, j < i + 1 → Tr.RootOk st.L (rs.getD j rtZ).1 (rs.getD j rtZ).2 (ml.getD j mlZ).2.2))
          case first =>
            have hbc : Below wr.heap.size wr wr.drew := (Below.refl _ _).drew
            have hl1 : ldR6 = Op.load 66 (.tmp 6) := rfl
            have hl2 : ldM8 = Op.load 71 (.tmp 8) := rfl
            rw [← hl1, ← hl2]
            go_region_held3 (fun u => u.cell? ⟨bD, oD + i * 3, none⟩ = some (.bool y.d.cut) ∧ u.cell? ⟨bD, oD + i * 3 + 1, none⟩ = some (.slice y.P y.d.put.length y.cp) ∧ u.cell? ⟨bD, oD + i * 3 + 2, none⟩ = some (.slice y.K y.d.keys.length y.ck)) (first | exact KS.out _ (P.out.below hbc).bel | exact KS.out _ KB.out | exact KS.out _ KB1.out | exact KS.out _ KB2.out | exact KS.out _ KB3.out | exact KS.out _ KB4.out) (first
              | (go_at_call 33; ((with_reducible refine (HDo.out _ hbc).mono ?_); rintro e w6 ⟨X6, s6, k6, h6, D6, d6, rfl, r6, t6, ⟨j6, m6, l6⟩, o6, f6⟩; unfold Tr.rootV; dsimp only; have F6 := Lib.hid ((P.out.below hbc).stp r6 t6); have O6 := Lib.hid o6; have C6 := Lib.hid (C.out.mor m6); have M6 := Lib.hid m6; have L6 := Lib.hid l6; have KB := Lib.hid F6.out.bel; obtain ⟨s1, s2, s3, v4, v5, t0, t1, t2, t3, u4', ⟨p1, p2, p3, p4, p5⟩, ⟨q0', q1, q2, q3, q4'⟩, ⟨f1, f2, f3, f4, f5⟩, ⟨g0, g1, g2, g3, g4⟩, ⟨i1, i2, i3, i4, i5⟩, ⟨j0, j1, j2, j3, j4⟩, ⟨cA, cB, cC, cD⟩, ⟨e1, e2⟩, ⟨e3, e4⟩⟩ := do_end F6.out.br F6.out.bm (Nat.ne_of_lt F6.out.lt) (.int .i64 k6.1) (.int .i64 k6.2.1) (.int .i64 k6.2.2) (.int .i64 h6) (.slice D6 (y.d.on m).length d6); have KB1 := Lib.hid (F6.out.bel_chg cA); have KB2 := Lib.hid (F6.out.bel_chg cB); have KB3 := Lib.hid (F6.out.bel_chg cC); have KB4 := Lib.hid (F6.out.bel_chg cD); have P1 := Lib.hid ((P.out.below hbc).put r6 t6 f6 cB e1 e2); have P2 := Lib.hid ((P.out.below hbc).put r6 t6 f6 cD e3 e4); clear r6 t6 m6 o6 f6 l6 cA cB cC cD e1 e2 e3 e4)))
            all_goals go_wp2_with fail
            all_goals go_meet
            all_goals have hs := Hsn.out
            all_goals have hl := L6.out
            all_goals have hm := Hm.out
            all_goals have ho := Tr.on_len y.d m
            all_goals first
              | exact ⟨rfl, X6, s6, k6, h6, _, D6, d6, P1.out, O6.out, C6.out.mono (by omega), by omega, fun j hj => rok_mor (Hold.out j hj) M6.out⟩
              | exact ⟨rfl, X6, s6, k6, h6, _, D6, d6, P2.out, O6.out, C6.out.mono (by omega), by omega, fun j hj => rok_mor (Hold.out j hj) M6.out⟩
          case rest =>
            obtain ⟨rfl, X, st, k, h, m, D, d, hp, ho, hc, hm, hold⟩ := hcut
            have P := Lib.hid hp
            have O := Lib.hid ho
            have C := Lib.hid hc
            have Hm := Lib.hid hm
            have Hold := Lib.hid hold
            clear hp ho hc hm hold x0 x1 x2 x3 y0
            obtain ⟨x0, x1, x2, x3, -⟩ := pm_cells P.out
            have RG := Lib.hid (rok_right O.out)
            have HR := Lib.hid (right_is p st h.toNat k h 0 512 true P.out.rep O.out.kr (by have := RG.out.2; omega) rfl (iff_of_true rfl RG.out.1))
            go_upto_region 18 with (go_at_call 34; (with_reducible refine HR.out.mono ?_); rintro e w7 ⟨rfl, b7⟩; (have P7 := Lib.hid (P.out.below b7)); clear b7)
            clear x0 x1 x2 x3 HR
            obtain ⟨i0, hi0, hz0, hs0, hb0⟩ := root_parts
            obtain ⟨j0, hi1, hz1, hs1, hb1⟩ := map_parts
            have S7 : w7.heap.size = w7.heap.size := rfl
            have BA1 : Below w7.heap.size w7 (w7.alloc (.cells #[.int .i64 k.1, .int .i64 k.2.1, .int .i64 k.2.2, .int .i64 h] 66)).drew := (below_alloc1 w7 _).drew
            have B12 : Below w7.heap.size w7 ((w7.alloc (.cells #[.int .i64 k.1, .int .i64 k.2.1, .int .i64 k.2.2, .int .i64 h] 66)).alloc (.cells #[.slice D m.length d] 71)).drew := ((below_alloc1 w7 (.cells #[.int .i64 k.1, .int .i64 k.2.1, .int .i64 k.2.2, .int .i64 h] 66)).trans ((below_alloc1 _ (.cells #[.slice D m.length d] 71)).mono (below_alloc1 w7 (.cells #[.int .i64 k.1, .int .i64 k.2.1, .int .i64 k.2.2, .int .i64 h] 66)).size)).drew
            have B21 : Below w7.heap.size w7 ((w7.alloc (.cells #[.slice D m.length d] 71)).alloc (.cells #[.int .i64 k.1, .int .i64 k.2.1, .int .i64 k.2.2, .int .i64 h] 66)).drew := ((below_alloc1 w7 (.cells #[.slice D m.length d] 71)).trans ((below_alloc1 _ (.cells #[.int .i64 k.1, .int .i64 k.2.1, .int .i64 k.2.2, .int .i64 h] 66)).mono (below_alloc1 w7 (.cells #[.slice D m.length d] 71)).size)).drew
            have PA := Lib.hid (P7.out.below BA1)
            have PB := Lib.hid (P7.out.below B12)
            have PC := Lib.hid (P7.out.below B21)
            have PD := Lib.hid (P7.out.below (below_alloc1 w7 (.cells #[.slice D m.length d] 71)).drew)
            have e1 : (w7.alloc (.cells #[.int .i64 k.1, .int .i64 k.2.1, .int .i64 k.2.2, .int .i64 h] 66)).heap.size = w7.heap.size + 1 := by simp
            have e2 : (w7.alloc (.cells #[.slice D m.length d] 71)).heap.size = w7.heap.size + 1 := by simp
            have bA := (Blk.new w7 66 #[.int .i64 k.1, .int .i64 k.2.1, .int .i64 k.2.2, .int .i64 h]).keep (w' := (w7.alloc (.cells #[.int .i64 k.1, .int .i64 k.2.1, .int .i64 k.2.2, .int .i64 h] 66)).drew) rfl
            have bB1 := ((Blk.new w7 66 #[.int .i64 k.1, .int .i64 k.2.1, .int .i64 k.2.2, .int .i64 h]).keep ((below_alloc1 _ (.cells #[.slice D m.length d] 71)).block _ (Blk.new w7 66 #[.int .i64 k.1, .int .i64 k.2.1, .int .i64 k.2.2, .int .i64 h]).lt)).keep (w' := ((w7.alloc (.cells #[.int .i64 k.1, .int .i64 k.2.1, .int .i64 k.2.2, .int .i64 h] 66)).alloc (.cells #[.slice D m.length d] 71)).drew) rfl
            have bB2 := (Blk.new (w7.alloc (.cells #[.int .i64 k.1, .int .i64 k.2.1, .int .i64 k.2.2, .int .i64 h] 66)) 71 #[.slice D m.length d]).keep (w' := ((w7.alloc (.cells #[.int .i64 k.1, .int .i64 k.2.1, .int .i64 k.2.2, .int .i64 h] 66)).alloc (.cells #[.slice D m.length d] 71)).drew) rfl
            have bC1 := (Blk.new (w7.alloc (.cells #[.slice D m.length d] 71)) 66 #[.int .i64 k.1, .int .i64 k.2.1, .int .i64 k.2.2, .int .i64 h]).keep (w' := ((w7.alloc (.cells #[.slice D m.length d] 71)).alloc (.cells #[.int .i64 k.1, .int .i64 k.2.1, .int .i64 k.2.2, .int .i64 h] 66)).drew) rfl
            have bC2 := ((Blk.new w7 71 #[.slice D m.length d]).keep ((below_alloc1 _ (.cells #[.int .i64 k.1, .int .i64 k.2.1, .int .i64 k.2.2, .int .i64 h] 66)).block _ (Blk.new w7 71 #[.slice D m.length d]).lt)).keep (w' := ((w7.alloc (.cells #[.slice D m.length d] 71)).alloc (.cells #[.int .i64 k.1, .int .i64 k.2.1, .int .i64 k.2.2, .int .i64 h] 66)).drew) rfl
            rw [e1] at bB2
            rw [e2] at bC1
            have XA := Lib.hid bA
            have XB1 := Lib.hid bB1
            have XB2 := Lib.hid bB2
            have XC1 := Lib.hid bC1
            have XC2 := Lib.hid bC2
            have U9 := Lib.hid (show ∀ b, w7.heap.size ≤ b → some b ≠ u9.ownBlock from fun b hb e => by have := (P7.out.r1.lt b e.symm).2; omega)
            clear bA bB1 bB2 bC1 bC2 e1 e2 BA1 B12 B21
            go_region_held3 (fun u => u.cell? ⟨rb, 0, none⟩ = some (.int .i64 k.1) ∧ u.cell? ⟨rb, 1, none⟩ = some (.int .i64 k.2.1) ∧ u.cell? ⟨rb, 2, none⟩ = some (.int .i64 k.2.2) ∧ u.cell? ⟨rb, 3, none⟩ = some (.int .i64 h) ∧ u.cell? ⟨mb, 0, none⟩ = some (.slice D m.length d)) (first | exact pm_cells (P7.out.below (Below.refl _ _).drew) | exact pm_cells PA.out | exact pm_cells PB.out | exact pm_cells PC.out | exact pm_cells PD.out | exact pm_cells P8.out | exact pm_cells (P8.out.below (below_alloc1 w8 _)) | exact pm_cells P9.out) (first
              | (refine step_append3 _ (base := mb + 1) rfl (.tmp 80) (.tmp 82) _ rfl Try.underlying73 hi1 hz1 hs1 hb1 rfl (by decide) rfl P8.out.r2 (m := 1) (news := mcs [(D, d, m)]) rfl rfl (fun h => by cases h) (Nat.le_refl _) (sl_blk G8.out) (mcs_one _) (by unfold maxLen; omega) (by omega) P8.out.bm.lt ?_; intro v9 w9 a1 a2 a3; have P9 := Lib.hid (P8.out.grow2 a1 a2 a3); clear a1 a2 a3)
              | (refine step_append3 _ (base := mb + 1) rfl (.tmp 76) (.tmp 78) _ rfl Try.underlying72 hi0 hz0 hs0 hb0 rfl (by decide) rfl PA.out.r1 (m := 1) (news := rcs [(k, h)]) rfl rfl (fun h => by cases h) (Nat.le_refl _) (sl_blk XA.out) (rcs_one _) (by unfold maxLen; omega) (by omega) PA.out.bm.lt ?_; intro v8 w8 a1 a2 a3; have P8 := Lib.hid (PA.out.grow1 a1 a2 a3);  clear a1 a2 a3)
              | (refine step_append3 _ (base := mb + 1) rfl (.tmp 76) (.tmp 78) _ rfl Try.underlying72 hi0 hz0 hs0 hb0 rfl (by decide) rfl PB.out.r1 (m := 1) (news := rcs [(k, h)]) rfl rfl (fun h => by cases h) (Nat.le_refl _) (sl_blk XB1.out) (rcs_one _) (by unfold maxLen; omega) (by omega) PB.out.bm.lt ?_; intro v8 w8 a1 a2 a3; have P8 := Lib.hid (PB.out.grow1 a1 a2 a3); have G8 := Lib.hid (XB2.out.keep (a2.block _ XB2.out.lt (U9.out _ (Nat.le_succ _)))); clear a1 a2 a3)
              | (refine step_append3 _ (base := mb + 1) rfl (.tmp 76) (.tmp 78) _ rfl Try.underlying72 hi0 hz0 hs0 hb0 rfl (by decide) rfl PC.out.r1 (m := 1) (news := rcs [(k, h)]) rfl rfl (fun h => by cases h) (Nat.le_refl _) (sl_blk XC1.out) (rcs_one _) (by unfold maxLen; omega) (by omega) PC.out.bm.lt ?_; intro v8 w8 a1 a2 a3; have P8 := Lib.hid (PC.out.grow1 a1 a2 a3); have G8 := Lib.hid (XC2.out.keep (a2.block _ XC2.out.lt (U9.out _ (Nat.le_refl _)))); clear a1 a2 a3)
              | (refine step_append3 _ (base := mb + 1) rfl (.tmp 80) (.tmp 82) _ rfl Try.underlying73 hi1 hz1 hs1 hb1 rfl (by decide) rfl (P8.out.below (below_alloc1 w8 (.cells #[.slice D m.length d] 71))).r2 (m := 1) (news := mcs [(D, d, m)]) rfl rfl (fun h => by cases h) (Nat.le_refl _) (sl_blk (Blk.new w8 71 #[.slice D m.length d])) (mcs_one _) (by unfold maxLen; omega) (by omega) (P8.out.below (below_alloc1 w8 (.cells #[.slice D m.length d] 71))).bm.lt ?_; intro v9 w9 a1 a2 a3; have P9 := Lib.hid ((P8.out.below (below_alloc1 w8 (.cells #[.slice D m.length d] 71))).grow2 a1 a2 a3); clear a1 a2 a3))
            all_goals
              have hk9 := P9.out
              rw [← rcs_app, ← mcs_app] at hk9
              have P10 := Lib.hid (hk9.imp (P := Kf (ml ++ [(D, d, m)])) fun u hk hs x hx => by
                rcases List.mem_append.1 hx with hx | hx
                · exact hk x hx
                · rw [List.mem_singleton] at hx; subst hx; exact hs)
              clear hk9
              go_wp2_with fail
              go_roundw
              case rel =>
                refine ⟨i + 1, by go_num, by omega, X, st, k, h, m, D, d, rs ++ [(k, h)], ml ++ [(D, d, m)], P10.out, O.out, C.out, Hm.out, by rw [List.length_append, Hrl.out]; rfl, by rw [List.length_append, Hml2.out]; rfl, fun j hj => ?_, fun x hx => ?_⟩
                · rcases Nat.lt_or_ge j (i + 1) with hj1 | hj1
                  · rw [getD_app1 (by rw [Hrl.out]; exact hj1), getD_app1 (by rw [Hml2.out]; exact hj1)]
                    exact Hold.out j hj1
                  · have e1 : j = rs.length := by rw [Hrl.out]; omega
                    have e2 : j = ml.length := by rw [Hml2.out]; omega
                    rw [e1, getD_app2, ← e1, e2, getD_app2]
                    exact O.out
                · rcases List.mem_append.1 hx with hx | hx
                  · exact Hmx.out x hx
                  · rw [List.mem_singleton] at hx
                    subst hx
                    exact Nat.le_trans Hm.out Hsn.out.2.1
              case measure => simp [intOf]; omega
        · have hiq : i = q := by omega
          subst hiq
          have z0 : decide ((i : Int) < (i : Int)) = false := by rw [decide_eq_false_iff_not]; omega
          have z0' : decide (i < i) = false := by rw [decide_eq_false_iff_not]; omega
          obtain ⟨A1, c1, rfl⟩ := own_slice P.out.r1
          obtain ⟨A2, c2, rfl⟩ := own_slice P.out.r2
          obtain ⟨N, hN⟩ : ∃ N, i + 1 = N := ⟨_, rfl⟩
          rw [hN] at P Hrl Hml2
          have Hold2 := Lib.hid (show ∀ j, j < N → Tr.RootOk st.L (rs.getD j rtZ).1 (rs.getD j rtZ).2 (ml.getD j mlZ).2.2 from fun j hj => Hold.out j (by omega))
          have hN31 : N ≤ 31 := by have h1 := Few1.out.1; rw [Hq.out] at h1; omega
          try rw [hN]
          have Hbl := Lib.hid C.out.bl
          have Hm3 := Lib.hid (show m.length ≤ 300 from Nat.le_trans Hm.out (Nat.le_trans (Tr.sum_take l i) Few1.out.2))
          clear Hold C hN z0 z0' Few1 Hm HL HF Hml
          go_wp2_with fail
          go_loopw [13] (fun v13 wx => ∃ j : Nat, v13 = .int .i64 (j : Int) ∧ j ≤ N ∧ ∃ X st, Pm B w p wx X st rb mb #[.int .i64 k.1, .int .i64 k.2.1, .int .i64 k.2.2, .int .i64 h] D m.length d (evs m) (.slice A1 N c1) N (rcs rs) (.slice A2 N c2) N (mcs ml) (Kf ml) ∧ Tr.RootOk st.L k h m ∧ st.bl = 0 ∧ ∀ j, j < N → Tr.RootOk st.L (rs.getD j rtZ).1 (rs.getD j rtZ).2 (ml.getD j mlZ).2.2) (fun v13 _ => N - (intOf v13).toNat)
          case atStart => exact ⟨0, rfl, Nat.zero_le _, X, st, P.out, O.out, Hbl.out, Hold2.out⟩
          case round =>
            obtain ⟨j, rfl, hj, X, st, hp, ho, hb, hold⟩ := hrel
            have P := Lib.hid hp
            have O := Lib.hid ho
            have Hbl := Lib.hid hb
            have Hold := Lib.hid hold
            clear hp ho hb hold Hold2
            by_cases hjN : j < N
            · have z0 : decide ((j : Int) < (N : Int)) = true := by rw [decide_eq_true_eq]; omega
              have z0' : decide (j < N) = true := decide_eq_true hjN
              have hjj : (j : Int) < (N : Int) := by omega
              obtain ⟨g1, d1, e1, a0, a1, a2, a3⟩ := roots_at P.out.r1 (i := j) (by rw [Hrl.out]; exact hjN) Hrl.out
              injection e1 with e1 e2 e3
              subst e1
              subst e3
              clear e2
              have HA := Lib.hid (tall P.out.rep Hbl.out (Hold.out j hjN))
              unfold AlO memV Tr.rootV at HA
              have Hlen := Lib.hid (show (ml.getD j mlZ).2.2.length ≤ 300 ∧ (ml.getD j mlZ) ∈ ml from by
                have hl : j < ml.length := by rw [Hml2.out]; exact hjN
                rw [List.getD_eq_getElem?_getD, List.getElem?_eq_getElem hl]
                exact ⟨Hmx.out _ (List.getElem_mem hl), List.getElem_mem hl⟩)
              obtain ⟨y, hy⟩ : ∃ y, ml.getD j mlZ = y := ⟨_, rfl⟩
              obtain ⟨x, hx⟩ : ∃ x, rs.getD j rtZ = x := ⟨_, rfl⟩
              rw [hy] at HA Hlen
              rw [hx] at HA a0 a1 a2 a3
              have Hy := Lib.hid hy
              clear hy hx
              go_upto_region 23 with (go_at_call 35; (with_reducible refine HA.out.mono ?_); rintro e w9 ⟨X9, s9, A9, c9, rfl, r9, t9, k9, f9⟩; (have P9 := Lib.hid (P.out.stp r9 t9)); (have L9 := Lib.hid k9.L); (have B9 := Lib.hid (k9.bl.trans Hbl.out)); (have F9 := Lib.hid f9); clear r9 t9 k9 f9)
              clear a0 a1 a2 a3
              obtain ⟨g2, d2, e4, b0⟩ := maps_at P9.out.r2 (i := j) (by rw [Hml2.out]; exact hjN) Hml2.out
              injection e4 with e4 e5 e6
              subst e4
              subst e6
              clear e5
              rw [Hy.out] at b0
              have HS := Lib.hid (msame_any (w := w9) (l := y.2.2) F9.out.now (P9.out.now y Hlen.out.2) (by have := Hlen.out.1; omega))
              go_wp2_with (go_at_call 36; (with_reducible refine HS.out.mono ?_); rintro e w10 ⟨rfl, b10⟩; (have P11 := Lib.hid (P9.out.below b10)); clear b10)
              go_roundw
              case rel => exact ⟨j + 1, by go_num, by omega, X9, s9, P11.out, by rw [L9.out]; exact O.out, B9.out, fun a ha => by rw [L9.out]; exact Hold.out a ha⟩
              case measure => simp [intOf]; omega
            · have hjN : j = N := by omega
              subst hjN
              have z0 : decide ((j : Int) < (j : Int)) = false := by rw [decide_eq_false_iff_not]; omega
              have z0' : decide (j < j) = false := by rw [decide_eq_false_iff_not]; omega
              have NL := Lib.hid (show LW B w p wr X st (fun u => Blk u rb 66 #[.int .i64 k.1, .int .i64 k.2.1, .int .i64 k.2.2, .int .i64 h] ∧ Blk u mb 71 #[.slice D m.length d] ∧ SlC u u.heap.size D d m.length (evs m)) from ⟨P.out.rep, P.out.bel, P.out.ge, P.out.sz, Fast.and_ (Fast.blk P.out.br P.out.fr) (Fast.and_ (Fast.blk P.out.bm P.out.fm) (P.out.sl.anti fun _ h => .inl h))⟩)
              obtain ⟨nm, hnm⟩ : ∃ n, m.length = n := ⟨_, rfl⟩
              rw [hnm] at NL Hm3
              have Hnm := Lib.hid hnm
              try rw [hnm]
              clear hnm P Hold z0 z0'
              obtain ⟨K, hK, hKK⟩ : ∃ K : World → Prop, LW B w p wr X st K ∧ ∀ u, K u → Blk u rb 66 #[.int .i64 k.1, .int .i64 k.2.1, .int .i64 k.2.2, .int .i64 h] ∧ Blk u mb 71 #[.slice D nm d] ∧ SlC u u.heap.size D d nm (evs m) := ⟨_, NL.out, fun _ h => h⟩
              have N0 := Lib.hid hK
              have HKK := Lib.hid hKK
              clear hK hKK NL
              go_wp2_with fail
              go_loopw [16] (fun v16 wx => ∃ a : Nat, v16 = .int .i64 (a : Int) ∧ a ≤ r ∧ ∃ X st, LW B w p wx X st K ∧ Tr.RootOk st.L k h m ∧ st.bl = 0) (fun v16 _ => r - (intOf v16).toNat)
              case atStart => exact ⟨0, rfl, Nat.zero_le _, X, st, N0.out, O.out, Hbl.out⟩
              case round =>
                obtain ⟨a, rfl, ha, X, st, hn, ho, hb⟩ := hrel
                have N := Lib.hid hn
                have O := Lib.hid ho
                have Hbl := Lib.hid hb
                clear hn ho hb N0
                by_cases har : a < r
                · have z0 : decide ((a : Int) < (r : Int)) = true := by rw [decide_eq_true_eq]; omega
                  have z0' : decide (a < r) = true := decide_eq_true har
                  have haa : (a : Int) < (r : Int) := by omega
                  have har50 : r ≤ 50 := by omega
                  obtain ⟨bA, oA, hAe, -, -⟩ := (HK.out _ N.out.bel).int (i := a) (by rw [Hr.out]; exact har)
                  obtain ⟨key, hkey⟩ : ∃ x, Nd.at_ ks a = x := ⟨_, rfl⟩
                  subst hAe
                  have KA := Lib.hid (fun (V : World) (hV : Below B w V) => show V.cell? ⟨bA, oA + a, none⟩ = some (.int .i64 key) from by
                    obtain ⟨b', o', e, -, c0⟩ := (HK.out V hV).int (i := a) (by rw [Hr.out]; exact har)
                    injection e with e
                    injection e with e1 e2
                    subst e1
                    subst e2
                    rw [hkey] at c0
                    exact c0)
                  clear hkey
                  have SV : ∀ (V : World) (X' : Nat → Prop) (s' : Tr.MSt), MRep p V X' s' → Stp wr X V X' → (fun u : World => u.cell? ⟨rb, 0, none⟩ = some (.int .i64 k.1) ∧ u.cell? ⟨rb, 1, none⟩ = some (.int .i64 k.2.1) ∧ u.cell? ⟨rb, 2, none⟩ = some (.int .i64 k.2.2) ∧ u.cell? ⟨rb, 3, none⟩ = some (.int .i64 h) ∧ u.cell? ⟨bA, oA + a, none⟩ = some (.int .i64 key)) V := fun V X' s' hr hs => by
                    have f := N.out.stp hr hs
                    have e := HKK.out V f.now
                    exact ⟨e.1.cell 0, e.1.cell 1, e.1.cell 2, e.1.cell 3, KA.out V f.bel⟩
                  have KS := Lib.hid (fun (V : World) (hV : Below wr.heap.size wr V) => SV V X st (N.out.below hV).rep (.of_below X hV))
                  have HG := Lib.hid (fun (V : World) (hV : Below wr.heap.size wr V) => tget_all (N.out.below hV).rep Hbl.out O.out key)
                  unfold memV Tr.rootV at HG
                  have XLT := Lib.hid (show ∀ b, X b → b < wr.heap.size from fun b hb => N.out.rep.lt hb)
                  go_upto_region 28 with fail
                  go_cut [17, 18, 19] from 117 to 128 (fun v17 v18 v19 wx => ∃ (xb : Nat) (x : Tr.E) (b : Bool) (er : Int) (X' : Nat → Prop) (s : Tr.MSt), v17 = .pointer (some ⟨xb, 0, none⟩) ∧ v18 = .bool b ∧ v19 = .int .i64 er ∧ LW B w p wx X' s (fun u => K u ∧ Blk u xb 84 #[.int .i64 x.k, .int .i64 x.p.1, .int .i64 x.p.2.1, .int .i64 x.p.2.2, .int .i64 x.g]) ∧ Tr.KS st s ∧ ((0 ≤ key ∧ key < 512) ∧ er = 0 ∧ b = (Tr.get m key).isSome ∧ x = (Tr.get m key).getD Tr.z ∨ ¬ (0 ≤ key ∧ key < 512) ∧ er = 1 ∧ b = false))
                  case first =>
                    have hbc : Below wr.heap.size wr wr.drew := (Below.refl _ _).drew
                    go_region_held3 (fun u => u.cell? ⟨rb, 0, none⟩ = some (.int .i64 k.1) ∧ u.cell? ⟨rb, 1, none⟩ = some (.int .i64 k.2.1) ∧ u.cell? ⟨rb, 2, none⟩ = some (.int .i64 k.2.2) ∧ u.cell? ⟨rb, 3, none⟩ = some (.int .i64 h) ∧ u.cell? ⟨bA, oA + a, none⟩ = some (.int .i64 key)) (first | exact KS.out _ hbc | exact KS.out _ (below_alloc1 wr (Obj.cells #[.int .i64 0, .int .i64 0, .int .i64 0, .int .i64 0, .int .i64 0] 84)).drew | exact KV.out _ (Below.refl _ _) | exact KV.out _ (below_alloc1 w9 _) | exact K5.out) (first
                      | (go_at_call 37; ((with_reducible refine (HG.out _ hbc).mono ?_); rintro e w9 ⟨X9, s9, x9, b9, er9, rfl, r9, t9, k9, c9⟩; dsimp only [ev, evv]; have R9 := Lib.hid r9; have T9 := Lib.hid ((Stp.of_below X hbc).trans t9); have KV := Lib.hid (fun (V : World) (hV : Below w9.heap.size w9 V) => SV V X9 s9 ((N.out.stp R9.out T9.out).below hV).rep (T9.out.below hV)); have Q9 := Lib.hid k9; have D9 := Lib.hid c9; clear r9 t9 k9 c9))
                      | (go_at_call 37; (have GBz := (Blk.new wr 84 #[.int .i64 0, .int .i64 0, .int .i64 0, .int .i64 0, .int .i64 0]).keep (w' := (wr.alloc (Obj.cells #[.int .i64 0, .int .i64 0, .int .i64 0, .int .i64 0, .int .i64 0] 84)).drew) rfl); (have hbc := (below_alloc1 wr (Obj.cells #[.int .i64 0, .int .i64 0, .int .i64 0, .int .i64 0, .int .i64 0] 84)).drew); ((with_reducible refine (HG.out _ hbc).mono ?_); rintro e w9 ⟨X9, s9, x9, b9, er9, rfl, r9, t9, k9, c9⟩; dsimp only [ev, evv]; have R9 := Lib.hid r9; have T9 := Lib.hid ((Stp.of_below X hbc).trans t9); have KV := Lib.hid (fun (V : World) (hV : Below w9.heap.size w9 V) => SV V X9 s9 ((N.out.stp R9.out T9.out).below hV).rep (T9.out.below hV)); have Q9 := Lib.hid k9; have D9 := Lib.hid c9; have gb := GBz.keep (t9.chg.block _ GBz.lt fun hx => Nat.lt_irrefl _ (XLT.out _ hx)); have XF := Lib.hid (t9.far GBz.lt fun hx => Nat.lt_irrefl _ (XLT.out _ hx)); (obtain ⟨v1, v2, v3, v4, v5, p1, p2, p3, p4, p5, ⟨f1, f2, f3, f4, f5⟩, ⟨g1', g2', g3', g4', g5'⟩, Bk, Ck⟩ := blk_st5p gb (.int .i64 x9.k) (.int .i64 x9.p.1) (.int .i64 x9.p.2.1) (.int .i64 x9.p.2.2) (.int .i64 x9.g)); have BK := Lib.hid Bk; have CK := Lib.hid Ck; have NB := Lib.hid (lw_box5 N.out R9.out T9.out (Nat.le_refl _) Ck Bk XF.out); have K5 := Lib.hid (show (fun u : World => u.cell? ⟨rb, 0, none⟩ = some (.int .i64 k.1) ∧ u.cell? ⟨rb, 1, none⟩ = some (.int .i64 k.2.1) ∧ u.cell? ⟨rb, 2, none⟩ = some (.int .i64 k.2.2) ∧ u.cell? ⟨rb, 3, none⟩ = some (.int .i64 h) ∧ u.cell? ⟨bA, oA + a, none⟩ = some (.int .i64 key)) v5 from by have e := HKK.out _ NB.out.now.1; exact ⟨e.1.cell 0, e.1.cell 1, e.1.cell 2, e.1.cell 3, KA.out _ NB.out.bel⟩); clear r9 t9 k9 c9 Bk Ck gb GBz)))
                    all_goals go_wp2_with fail
                    all_goals go_meet
                    all_goals first
                      | exact ⟨_, _, _, _, _, _, rfl, rfl, rfl, NB.out, Q9.out, D9.out⟩
                      | exact ⟨_, _, _, _, _, _, rfl, rfl, rfl, (N.out.stp R9.out T9.out).new _ _, Q9.out, D9.out⟩
                  case rest =>
                    obtain ⟨xb, x, b, er, X9, s9, rfl, rfl, rfl, hn, hks, hc⟩ := hcut
                    have N9 := Lib.hid hn
                    have Q9 := Lib.hid hks
                    have D9 := Lib.hid hc
                    clear hn hks hc KS SV HG XLT
                    have SV2 : ∀ (V : World), Below wc.heap.size wc V → (fun u : World => u.cell? ⟨mb, 0, none⟩ = some (.slice D nm d) ∧ u.cell? ⟨bA, oA + a, none⟩ = some (.int .i64 key)) V := fun V hV => by
                      have f := N9.out.below hV
                      exact ⟨(HKK.out V f.now.1).2.1.cell 0, KA.out V f.bel⟩
                    have KS := Lib.hid SV2
                    clear SV2
                    obtain ⟨e10, he10⟩ : ∃ e, (Tr.get m key).getD Tr.z = e := ⟨_, rfl⟩
                    obtain ⟨b10, hb10⟩ : ∃ e, (Tr.get m key).isSome = e := ⟨_, rfl⟩
                    rw [he10, hb10] at D9
                    have HMG := Lib.hid (fun (V : World) (hV : Below wc.heap.size wc V) => show Calls Try.prog 38 #[.agg #[.slice D nm d], .int .i64 key] V (fun e w' => e = .returned (.tuple #[ev e10, .bool b10]) ∧ Below V.heap.size V w') from by
                      have := mget_any (w := V) (m := m) (by rw [Hnm.out]; exact (HKK.out V (N9.out.below hV).now.1).2.2) key (by rw [Hnm.out]; have := Hm3.out; omega)
                      rw [Hnm.out, he10, hb10] at this
                      exact this)
                    clear he10 hb10
                    go_upto_region 29 with fail
                    go_cut [20, 21] from 129 to 137 (fun v20 v21 wx => ∃ (yb : Nat), v20 = .pointer (some ⟨yb, 0, none⟩) ∧ v21 = .bool b10 ∧ LW B w p wx X9 s9 (fun u => (K u ∧ Blk u xb 84 #[.int .i64 x.k, .int .i64 x.p.1, .int .i64 x.p.2.1, .int .i64 x.p.2.2, .int .i64 x.g]) ∧ Blk u yb 87 #[.int .i64 e10.k, .int .i64 e10.p.1, .int .i64 e10.p.2.1, .int .i64 e10.p.2.2, .int .i64 e10.g]))
                    case first =>
                      have hbc : Below wc.heap.size wc wc.drew := (Below.refl _ _).drew
                      go_region_held3 (fun u => u.cell? ⟨mb, 0, none⟩ = some (.slice D nm d) ∧ u.cell? ⟨bA, oA + a, none⟩ = some (.int .i64 key)) (first | exact KS.out _ hbc | exact KS.out _ (below_alloc1 wc (Obj.cells #[.int .i64 0, .int .i64 0, .int .i64 0, .int .i64 0, .int .i64 0] 87)).drew | exact KS.out _ (hbc.trans ((below_alloc1 w11 (Obj.cells #[.int .i64 0, .int .i64 0, .int .i64 0, .int .i64 0, .int .i64 0] 87)).mono hbc.size)) | exact KS.out _ (hbc.trans ((below_alloc1 w11 (.cells #[.int .i64 e10.k, .int .i64 e10.p.1, .int .i64 e10.p.2.1, .int .i64 e10.p.2.2, .int .i64 e10.g] 87)).mono hbc.size)) | exact K5.out) (first
                        | (go_at_call 38; ((with_reducible refine (HMG.out _ hbc).mono ?_); rintro e w11 ⟨rfl, b11⟩; dsimp only [ev, evv]; have hbc := hbc.trans (b11.mono hbc.size); have NA := Lib.hid (N9.out.below hbc); clear b11))
                        | (go_at_call 38; (have GBz := (Blk.new wc 87 #[.int .i64 0, .int .i64 0, .int .i64 0, .int .i64 0, .int .i64 0]).keep (w' := (wc.alloc (Obj.cells #[.int .i64 0, .int .i64 0, .int .i64 0, .int .i64 0, .int .i64 0] 87)).drew) rfl); (have hbc := (below_alloc1 wc (Obj.cells #[.int .i64 0, .int .i64 0, .int .i64 0, .int .i64 0, .int .i64 0] 87)).drew); ((with_reducible refine (HMG.out _ hbc).mono ?_); rintro e w11 ⟨rfl, b11⟩; dsimp only [ev, evv]; have gb := GBz.keep (b11.block _ GBz.lt); have hbc := hbc.trans (b11.mono hbc.size); (obtain ⟨v1, v2, v3, v4, v5, p1, p2, p3, p4, p5, ⟨f1, f2, f3, f4, f5⟩, ⟨g1', g2', g3', g4', g5'⟩, Bk, Ck⟩ := blk_st5p gb (.int .i64 e10.k) (.int .i64 e10.p.1) (.int .i64 e10.p.2.1) (.int .i64 e10.p.2.2) (.int .i64 e10.g)); have BK := Lib.hid Bk; have CK := Lib.hid Ck; have NB := Lib.hid (lw_box5 N9.out (N9.out.below hbc).rep (.of_below X9 hbc) (Nat.le_refl _) Ck Bk (fun hx => Nat.lt_irrefl _ (N9.out.rep.lt hx))); have K5 := Lib.hid (show (fun u : World => u.cell? ⟨mb, 0, none⟩ = some (.slice D nm d) ∧ u.cell? ⟨bA, oA + a, none⟩ = some (.int .i64 key)) v5 from ⟨(HKK.out _ NB.out.now.1.1).2.1.cell 0, KA.out _ NB.out.bel⟩); clear b11 Bk Ck gb GBz)))
                      all_goals go_wp2_with fail
                      all_goals go_meet
                      all_goals first
                        | exact ⟨_, rfl, rfl, NB.out⟩
                        | exact ⟨_, rfl, rfl, NA.out.new _ _⟩
                    case rest =>
                      obtain ⟨yb, rfl, rfl, hn⟩ := hcut
                      have N12 := Lib.hid hn
                      clear hn KS HMG
                      have ka := KA.out _ N12.out.bel
                      have a0 := N12.out.now.1.2.cell 0
                      have a1 := N12.out.now.1.2.cell 1
                      have a2 := N12.out.now.1.2.cell 2
                      have a3 := N12.out.now.1.2.cell 3
                      have a4 := N12.out.now.1.2.cell 4
                      have c0 := N12.out.now.2.cell 0
                      have c1' := N12.out.now.2.cell 1
                      have c2' := N12.out.now.2.cell 2
                      have c3 := N12.out.now.2.cell 3
                      have c4 := N12.out.now.2.cell 4
                      have RL := Lib.hid (show Tr.RootOk s9.L k h m ∧ s9.bl = 0 from ⟨by rw [Q9.out.L]; exact O.out, Q9.out.bl.trans Hbl.out⟩)
                      have FIN := Lib.hid (N12.out.imp (K' := K) fun _ h => h.1.1)
                      by_cases hk0 : key < 0
                      · have t0 : decide (key < 0) = true := decide_eq_true hk0
                        obtain ⟨rfl, rfl⟩ : er = 1 ∧ b = false := by
                          rcases D9.out with ⟨h, -⟩ | ⟨-, h⟩
                          · omega
                          · exact h
                        go_wp2_with fail
                        go_roundw
                        case rel => exact ⟨a + 1, by go_num, by omega, X9, s9, FIN.out, RL.out.1, RL.out.2⟩
                        case measure => simp [intOf]; omega
                      · have t0 : decide (key < 0) = false := decide_eq_false hk0
                        by_cases hk5 : 512 ≤ key
                        · have t1 : decide (512 ≤ key) = true := decide_eq_true hk5
                          obtain ⟨rfl, rfl⟩ : er = 1 ∧ b = false := by
                            rcases D9.out with ⟨h, -⟩ | ⟨-, h⟩
                            · omega
                            · exact h
                          go_wp2_with fail
                          go_roundw
                          case rel => exact ⟨a + 1, by go_num, by omega, X9, s9, FIN.out, RL.out.1, RL.out.2⟩
                          case measure => simp [intOf]; omega
                        · have t1 : decide (512 ≤ key) = false := decide_eq_false hk5
                          obtain ⟨rfl, hbb, rfl⟩ : er = 0 ∧ b = b10 ∧ x = e10 := by
                            rcases D9.out with ⟨-, h⟩ | ⟨h, -⟩
                            · exact h
                            · exact (h (by omega)).elim
                          subst hbb
                          clear D9
                          obtain ⟨xk, ⟨xp1, xp2, xp3⟩, xg⟩ := x
                          dsimp only at a0 a1 a2 a3 a4 c0 c1' c2' c3 c4
                          have q1 : (xk != xk) = false := by simp
                          have q2 : (xg != xg) = false := by simp
                          have q3 : (b != b) = false := by simp
                          go_wp2_with fail
                          go_roundw
                          case rel => exact ⟨a + 1, by go_num, by omega, X9, s9, FIN.out, RL.out.1, RL.out.2⟩
                          case measure => simp [intOf]; omega
                · have har : a = r := by omega
                  subst har
                  have z0 : decide ((a : Int) < (a : Int)) = false := by rw [decide_eq_false_iff_not]; omega
                  have z0' : decide (a < a) = false := by rw [decide_eq_false_iff_not]; omega
                  go_wp2_with fail
                  go_ret
                  exact ⟨rfl, N.out.bel⟩
  · have HF2 := Lib.hid (FEW false (decide_eq_false hP))
    go_wp2_with (go_at_call 31; (with_reducible refine HF2.out.mono ?_); rintro e w2 ⟨rfl, b2⟩; (have B2 := Lib.hid b2); clear b2)
    go_ret
    exact ⟨rfl, Bad.out.trans (B2.out.mono SZa.out)⟩
end Go.Proofs.Ytlcchefiicalpaa
