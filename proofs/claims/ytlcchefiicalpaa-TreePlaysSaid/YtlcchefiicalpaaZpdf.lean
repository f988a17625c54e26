/- The document's map: Put. -/
import Derived.Test.YtlcchefiicalpaaZpbh
import Derived.Test.YtlcchefiicalpaaZpi
namespace Go.Proofs.Ytlcchefiicalpaa
open Go.RowKit
theorem lay_evs : ∀ (l : List Tr.E) (i : Nat) (x : Tr.E), i < l.length → lay (evs l) (i * 5) (evs [x]) = evs (l.set i x)
  | [], i, x, h => by cases h
  | y :: l, 0, x, _ => rfl
  | y :: l, i + 1, x, h => by
    rw [show evs (y :: l) = evs [y] ++ evs l from rfl, show (i + 1) * 5 = (evs [y]).length + i * 5 by rw [show (evs [y]).length = 5 from rfl]; omega, lay_app, lay_evs l i x (by simpa using h)]
    rfl
namespace Tr
def OkL (l : List E) : Prop := ∀ i, i < l.length → EOk (l.getD i z)
theorem okL_iff {l : List E} : OkL l ↔ ∀ e ∈ l, EOk e := by
  refine ⟨fun h e he => ?_, fun h i hi => ?_⟩
  · obtain ⟨i, hi, rfl⟩ := List.mem_iff_getElem.1 he
    have := h i hi
    rw [List.getD_eq_getElem?_getD, List.getElem?_eq_getElem hi] at this
    exact this
  · rw [List.getD_eq_getElem?_getD, List.getElem?_eq_getElem hi]
    exact h _ (List.getElem_mem hi)
theorem puts_take {m l : List E} {i : Nat} (hi : i < l.length) : puts m (l.take (i + 1)) = ins (puts m (l.take i)) (l.getD i z) := by rw [take_next hi, puts_next]
theorem ins_at {m : List E} {e : E} {k : Nat} (h : idx m e.k = k) (hk : k < m.length) (he : (m.getD k z).k = e.k) : ins m e = m.set k e := by
  subst h
  unfold ins
  rw [if_pos ⟨hk, he⟩]
theorem ins_new {m : List E} {e : E} {k : Nat} (h : idx m e.k = k) (hn : ¬ (k < m.length ∧ (m.getD k z).k = e.k)) : ins m e = m.take k ++ [e] ++ m.drop k := by
  subst h
  unfold ins
  rw [if_neg (show ¬ hit m e.k from hn), List.append_assoc]
  rfl
end Tr
/-- Entries put, half way. -/
structure PutI (W wr : World) (u : Value) (i : Nat) (m l : List Tr.E) : Prop where
  row : wr.ownsRow W.heap.size 87 5 u (Tr.puts m (l.take i)).length (evs (Tr.puts m (l.take i)))
  bel : Below W.heap.size W wr
/-- What Put answers. -/
def PutR (w : World) (A : Option Addr) (q c : Nat) (m l : List Tr.E) (e : Ending) (w' : World) : Prop := (¬ Tr.OkL l ∧ e = .returned (.tuple #[.agg #[.slice A q c], .bool false]) ∨ Tr.OkL l ∧ ∃ D d, e = .returned (.tuple #[.agg #[.slice D (Tr.puts m l).length d], .bool true]) ∧ SlC w' w'.heap.size D d (Tr.puts m l).length (evs (Tr.puts m l)) ∧ ∀ a, D = some a → w.heap.size ≤ a.block) ∧ Below w.heap.size w w'
set_option maxRecDepth 8000 in
set_option maxHeartbeats 16000000 in
theorem mput_any {w : World} {A A2 : Option Addr} {c c2 : Nat} {m l : List Tr.E} (h : SlC w w.heap.size A c m.length (evs m)) (hk : SlC w w.heap.size A2 c2 l.length (evs l)) (hl : m.length ≤ 100000) (hkl : l.length ≤ 100000) :
    Calls Try.prog 44 #[.agg #[.slice A m.length c], .slice A2 l.length c2] w (PutR w A m.length c m l) := by
  obtain ⟨i0, hi0, hz0, hs0, hb0⟩ := rentry_parts
  obtain ⟨W0, hW0⟩ : ∃ W, w.alloc (.cells #[.slice A m.length c] 71) = W := ⟨_, rfl⟩
  obtain ⟨W, hW⟩ : ∃ W, W0.alloc (.cells #[.slice none 0 0] 71) = W := ⟨_, rfl⟩
  have bx : Blk W0 w.heap.size 71 #[.slice A m.length c] := by rw [← hW0]; exact Blk.new _ _ _
  have hb1 : Below w.heap.size w W0 := by rw [← hW0]; exact (Below.refl _ _).alloc (Nat.le_refl _) _
  obtain ⟨rb, hrb⟩ : ∃ b, W0.heap.size = b := ⟨_, rfl⟩
  have by_ : Blk W rb 71 #[.slice none 0 0] := by rw [← hW, ← hrb]; exact Blk.new _ _ _
  have hb2 : Below W0.heap.size W0 W := by rw [← hW]; exact (Below.refl _ _).alloc (Nat.le_refl _) _
  have bx := bx.keep (w' := W) (hb2.block _ bx.lt)
  have hle : w.heap.size ≤ rb := by rw [← hrb]; exact hb1.size
  have hB := hb1.trans (hb2.mono hb1.size)
  have HF := Lib.hid ((h.below hB).more (Nat.le_trans (Nat.le_refl _) hB.size))
  have HK := Lib.hid ((hk.below hB).more (Nat.le_trans (Nat.le_refl _) hB.size))
  have HPw := Lib.hid (show ∀ e w', (¬ Tr.OkL l ∧ e = .returned (.tuple #[.agg #[.slice A m.length c], .bool false]) ∨ Tr.OkL l ∧ ∃ D d, e = .returned (.tuple #[.agg #[.slice D (Tr.puts m l).length d], .bool true]) ∧ SlC w' w'.heap.size D d (Tr.puts m l).length (evs (Tr.puts m l)) ∧ ∀ a, D = some a → w.heap.size ≤ a.block) → Below w.heap.size w w' → PutR w A m.length c m l e w' from fun e w' h1 h2 => ⟨h1, h2⟩)
  obtain ⟨Q, hQ⟩ : ∃ Q, Q = PutR w A m.length c m l := ⟨_, rfl⟩
  rw [← hQ] at HPw ⊢
  clear hQ
  obtain ⟨b, hb⟩ : ∃ b, w.heap.size = b := ⟨_, rfl⟩
  rw [hb] at bx hle hB HPw
  have HB := Lib.hid hB
  have BX := Lib.hid bx
  have BY := Lib.hid by_
  have HL := Lib.hid hle
  obtain ⟨q, hq⟩ : ∃ q, q = m.length := ⟨_, rfl⟩
  have Hq := Lib.hid hq
  obtain ⟨kq, hkq⟩ : ∃ q, q = l.length := ⟨_, rfl⟩
  have Hkq := Lib.hid hkq
  rw [← hq] at HF BX hl hW0 HPw ⊢
  rw [← hkq] at HK hkl ⊢
  have x0 : W.cell? ⟨b, 0, none⟩ = some (.slice A q c) := BX.out.cell 0
  have HMW := Lib.hid (show b < W.heap.size ∧ rb < W.heap.size from ⟨bx.lt, by_.lt⟩)
  clear bx by_ hb1 hb2 hB hle h hk hq hkq
  go_enter Try.func44, Try.ntmps44
  go_wp2_with fail
  go_loopw [6] (fun v6 wr => ∃ i : Nat, v6 = .int .i64 (i : Int) ∧ i ≤ kq ∧ (∀ j, j < i → Tr.EOk (l.getD j Tr.z)) ∧ Below W.heap.size W wr) (fun v6 _ => kq - (intOf v6).toNat)
  case atStart => exact ⟨0, rfl, Nat.zero_le _, fun j hj => absurd hj (by omega), Below.refl _ _⟩
  case round =>
    obtain ⟨i, rfl, hi, hno, hbr⟩ := hrel
    have Hno := Lib.hid hno
    have HBr := Lib.hid hbr
    clear hno hbr
    by_cases hiq : i < kq
    · have z0 : decide ((i : Int) < (kq : Int)) = true := by rw [decide_eq_true_eq]; omega
      have z0' : decide (i < kq) = true := by rw [decide_eq_true_eq]; exact hiq
      have hqi : (i : Int) < (kq : Int) := by omega
      have hil : i < l.length := by rw [← Hkq.out]; exact hiq
      have Hil := Lib.hid hil
      obtain ⟨g, o, rfl, -, -⟩ := HK.out.ev (i := i) hil
      have Cell := Lib.hid (fun (X : World) (hX : Below W.heap.size W X) => show X.cell? ⟨g, o + i * 5, none⟩ = some (.int .i64 (l.getD i Tr.z).k) ∧ X.cell? ⟨g, o + i * 5 + 1, none⟩ = some (.int .i64 (l.getD i Tr.z).p.1) ∧ X.cell? ⟨g, o + i * 5 + 2, none⟩ = some (.int .i64 (l.getD i Tr.z).p.2.1) ∧ X.cell? ⟨g, o + i * 5 + 3, none⟩ = some (.int .i64 (l.getD i Tr.z).p.2.2) ∧ X.cell? ⟨g, o + i * 5 + 4, none⟩ = some (.int .i64 (l.getD i Tr.z).g) from by
        obtain ⟨g', o', e, -, h⟩ := (HK.out.below hX).ev Hil.out
        injection e with e
        injection e with e e'
        subst e; subst e'
        exact h)
      have HEok := Lib.hid (show Tr.EOk (l.getD i Tr.z) ↔ ((0 ≤ (l.getD i Tr.z).k ∧ (l.getD i Tr.z).k < 512) ∧ Nd.PlaceOk ((l.getD i Tr.z).p.1, (l.getD i Tr.z).p.2.1, (l.getD i Tr.z).p.2.2) (l.getD i Tr.z).g) from Iff.rfl)
      have HNo := Lib.hid (show ¬ Tr.EOk (l.getD i Tr.z) → ¬ Tr.OkL l from fun hn h => hn (h i Hil.out))
      have Nx := Lib.hid (show Tr.EOk (l.getD i Tr.z) → ∀ j, j < i + 1 → Tr.EOk (l.getD j Tr.z) from fun he j hj => by
        rcases Nat.lt_or_ge j i with h | h
        · exact Hno.out j h
        · obtain rfl : j = i := by omega
          exact he)
      clear hil Hno
      obtain ⟨c0, c1, c2, c3, c4⟩ := Cell.out wr HBr.out
      obtain ⟨e, he⟩ : ∃ e, e = l.getD i Tr.z := ⟨_, rfl⟩
      rw [← he] at c0 c1 c2 c3 c4 HEok HNo Nx Cell
      clear he
      obtain ⟨ek, ⟨e1, e2, e3⟩, eg⟩ := e
      dsimp only at c0 c1 c2 c3 c4 HEok Cell
      by_cases hk0 : ek < 0
      · have d1 : decide (ek < 0) = true := decide_eq_true hk0
        have HNo := Lib.hid (HNo.out (fun h => by have := (HEok.out.1 h).1; omega))
        go_wp2_with fail
        go_quiet (fail)
        obtain ⟨W5, hW5⟩ : ∃ W, wr.drewN nq = W := ⟨_, rfl⟩
        have HBx : Below wr.heap.size wr W5 := by rw [← hW5]; exact belowN (Below.refl _ _) _
        rw [hW5]
        clear hW5 c0 c1 c2 c3 c4
        have BYq := BY.out.keep ((HBr.out.trans (HBx.mono HBr.out.size)).block rb HMW.out.2)
        have BXq := BX.out.keep ((HBr.out.trans (HBx.mono HBr.out.size)).block b HMW.out.1)
        have xq : W5.cell? ⟨b, 0, none⟩ = some (.slice A q c) := BXq.cell 0
        have f0 := BYq.frozen 0
        have u0 : W5.cell? ⟨rb, 0, none⟩ = some (.slice none 0 0) := BYq.cell 0
        obtain ⟨s1, q1⟩ : ∃ s, W5.setCell ⟨rb, 0, none⟩ (.slice A q c) = s := ⟨_, rfl⟩
        have B1 : Blk s1 rb 71 #[.slice A q c] := by rw [← q1]; exact BYq.set_ 0 _
        have b1 : Below b w s1 := by rw [← q1]; exact (HB.out.trans ((HBr.out.trans (HBx.mono HBr.out.size)).mono (Nat.le_of_lt HMW.out.1))).setCell (p := ⟨rb, 0, none⟩) HL.out _
        have y0 : s1.cell? ⟨rb, 0, none⟩ = some (.slice A q c) := B1.cell 0
        have Fin := Lib.hid (HPw.out _ s1 (.inl ⟨HNo.out, rfl⟩) b1)
        clear B1 BYq BXq b1
        go_wp2_with fail
        refine bodyPost_ret (v := .tuple #[.agg #[.slice A q c], .bool false]) ?_ rfl Fin.out
        simp [results, Try.results44]
        go_simp
      · have d1 : decide (ek < 0) = false := decide_eq_false hk0
        by_cases hk5 : (512 : Int) ≤ ek
        · have d2 : decide ((512 : Int) ≤ ek) = true := decide_eq_true hk5
          have HNo := Lib.hid (HNo.out (fun h => by have := (HEok.out.1 h).1; omega))
          go_wp2_with fail
          go_quiet (fail)
          obtain ⟨W5, hW5⟩ : ∃ W, wr.drewN nq = W := ⟨_, rfl⟩
          have HBx : Below wr.heap.size wr W5 := by rw [← hW5]; exact belowN (Below.refl _ _) _
          rw [hW5]
          clear hW5 c0 c1 c2 c3 c4
          have BYq := BY.out.keep ((HBr.out.trans (HBx.mono HBr.out.size)).block rb HMW.out.2)
          have BXq := BX.out.keep ((HBr.out.trans (HBx.mono HBr.out.size)).block b HMW.out.1)
          have xq : W5.cell? ⟨b, 0, none⟩ = some (.slice A q c) := BXq.cell 0
          have f0 := BYq.frozen 0
          have u0 : W5.cell? ⟨rb, 0, none⟩ = some (.slice none 0 0) := BYq.cell 0
          obtain ⟨s1, q1⟩ : ∃ s, W5.setCell ⟨rb, 0, none⟩ (.slice A q c) = s := ⟨_, rfl⟩
          have B1 : Blk s1 rb 71 #[.slice A q c] := by rw [← q1]; exact BYq.set_ 0 _
          have b1 : Below b w s1 := by rw [← q1]; exact (HB.out.trans ((HBr.out.trans (HBx.mono HBr.out.size)).mono (Nat.le_of_lt HMW.out.1))).setCell (p := ⟨rb, 0, none⟩) HL.out _
          have y0 : s1.cell? ⟨rb, 0, none⟩ = some (.slice A q c) := B1.cell 0
          have Fin := Lib.hid (HPw.out _ s1 (.inl ⟨HNo.out, rfl⟩) b1)
          clear B1 BYq BXq b1
          go_wp2_with fail
          refine bodyPost_ret (v := .tuple #[.agg #[.slice A q c], .bool false]) ?_ rfl Fin.out
          simp [results, Try.results44]
          go_simp
        · have d2 : decide ((512 : Int) ≤ ek) = false := decide_eq_false hk5
          have HPl := Lib.hid (fun (V : World) => rplace_any e1 e2 e3 eg V)
          have Kp := Lib.hid (fun (V : World) (h : Below wr.heap.size wr V) => Cell.out V (HBr.out.trans (h.mono HBr.out.size)))
          have hbc : Below wr.heap.size wr wr.drew := (Below.refl _ _).drew
          by_cases hp : Nd.PlaceOk (e1, e2, e3) eg
          · have d3 : decide (Nd.PlaceOk (e1, e2, e3) eg) = true := decide_eq_true hp
            have HEy := Lib.hid (Nx.out (HEok.out.2 ⟨⟨by omega, by omega⟩, hp⟩))
            rw [d3] at HPl
            clear hp d3 HNo Nx HEok
            go_upto_region 4 with fail
            go_region_held3 (fun V => V.cell? ⟨g, o + i * 5, none⟩ = some (.int .i64 ek) ∧ V.cell? ⟨g, o + i * 5 + 1, none⟩ = some (.int .i64 e1) ∧ V.cell? ⟨g, o + i * 5 + 2, none⟩ = some (.int .i64 e2) ∧ V.cell? ⟨g, o + i * 5 + 3, none⟩ = some (.int .i64 e3) ∧ V.cell? ⟨g, o + i * 5 + 4, none⟩ = some (.int .i64 eg)) (exact Kp.out _ hbc) (first
              | (go_at_call 57; ((with_reducible refine (HPl.out _).mono ?_); rintro e w4 ⟨rfl, b4⟩; have hbc := hbc.trans (b4.mono hbc.size); clear b4)))
            all_goals
              have HBq := Lib.hid hbc
              go_wp2_with fail
              go_roundw
              case rel => exact ⟨i + 1, by go_num, by omega, HEy.out, HBr.out.trans (HBq.out.mono HBr.out.size)⟩
              case measure => simp [intOf]; omega
          · have d3 : decide (Nd.PlaceOk (e1, e2, e3) eg) = false := decide_eq_false hp
            have HNo := Lib.hid (HNo.out (fun h => hp (HEok.out.1 h).2))
            rw [d3] at HPl
            clear hp d3 Nx HEok
            go_upto_region 4 with fail
            go_region_held3 (fun V => V.cell? ⟨g, o + i * 5, none⟩ = some (.int .i64 ek) ∧ V.cell? ⟨g, o + i * 5 + 1, none⟩ = some (.int .i64 e1) ∧ V.cell? ⟨g, o + i * 5 + 2, none⟩ = some (.int .i64 e2) ∧ V.cell? ⟨g, o + i * 5 + 3, none⟩ = some (.int .i64 e3) ∧ V.cell? ⟨g, o + i * 5 + 4, none⟩ = some (.int .i64 eg)) (exact Kp.out _ hbc) (first
              | (go_at_call 57; ((with_reducible refine (HPl.out _).mono ?_); rintro e w4 ⟨rfl, b4⟩; have hbc := hbc.trans (b4.mono hbc.size); clear b4)))
            all_goals
              have HBq := Lib.hid hbc
              have BYq := BY.out.keep ((HBr.out.trans (HBq.out.mono HBr.out.size)).block rb HMW.out.2)
              have BXq := BX.out.keep ((HBr.out.trans (HBq.out.mono HBr.out.size)).block b HMW.out.1)
              have xq : w4.cell? ⟨b, 0, none⟩ = some (.slice A q c) := BXq.cell 0
              have f0 := BYq.frozen 0
              have u0 : w4.cell? ⟨rb, 0, none⟩ = some (.slice none 0 0) := BYq.cell 0
              obtain ⟨s1, q1⟩ : ∃ s, w4.setCell ⟨rb, 0, none⟩ (.slice A q c) = s := ⟨_, rfl⟩
              have B1 : Blk s1 rb 71 #[.slice A q c] := by rw [← q1]; exact BYq.set_ 0 _
              have b1 : Below b w s1 := by rw [← q1]; exact (HB.out.trans ((HBr.out.trans (HBq.out.mono HBr.out.size)).mono (Nat.le_of_lt HMW.out.1))).setCell (p := ⟨rb, 0, none⟩) HL.out _
              have y0 : s1.cell? ⟨rb, 0, none⟩ = some (.slice A q c) := B1.cell 0
              have Fin := Lib.hid (HPw.out _ s1 (.inl ⟨HNo.out, rfl⟩) b1)
              clear B1 BYq BXq b1
              go_wp2_with fail
              refine bodyPost_ret (v := .tuple #[.agg #[.slice A q c], .bool false]) ?_ rfl Fin.out
              simp [results, Try.results44]
              go_simp
    · have hiq' : i = kq := by omega
      have HOk := Lib.hid (show Tr.OkL l from fun j hj => Hno.out j (by rw [hiq', Hkq.out]; exact hj))
      have z0 : decide ((i : Int) < (kq : Int)) = false := by rw [decide_eq_false_iff_not]; omega
      have z0' : decide (i < kq) = false := by rw [decide_eq_false_iff_not]; exact hiq
      have x0 : wr.cell? ⟨b, 0, none⟩ = some (.slice A q c) := (BX.out.keep (HBr.out.block b HMW.out.1)).cell 0
      have hw0 : Below W.heap.size W wr := HBr.out
      have HFw := Lib.hid (HF.out.below hw0)
      have HFl := Lib.hid (show (evs m).length = q * 5 by rw [evs_len, Hq.out])
      clear hiq hiq' hi Hno hw0
      go_wp2_with (at_builtin; refine wpList_append_sls (base := W.heap.size) _ rfl (.const (.slice none 0 0)) (.tmp 46) _ rfl Try.underlying69 hi0 hz0 hs0 hb0 rfl (by decide) rfl (World.ownsRow_nil _ _ _ _) (m := q) (news := evs m) rfl HFl.out HFw.out.nil HFw.out.le HFw.out.sl (evs_one m) (by unfold maxLen; omega) (by omega) HBr.out.size ?_; intro v8 w8 k1 k2 _; rw [Nat.zero_add, List.nil_append] at k1; (have P0 := Lib.hid (show PutI W w8 v8 0 m l from ⟨by show w8.ownsRow _ _ _ _ m.length (evs m); rw [← Hq.out]; exact k1, HBr.out.grown k2 HBr.out.size (fun g hg => by cases hg)⟩)); clear k1 k2)
      go_loopw [7, 8] (fun v7 v8 wx => ∃ i : Nat, v8 = .int .i64 (i : Int) ∧ i ≤ kq ∧ PutI W wx v7 i m l) (fun _ v8 _ => kq - (intOf v8).toNat)
      case atStart => exact ⟨0, rfl, Nat.zero_le _, P0.out⟩
      case round =>
        clear P0 HFw HFl x0 z0 z0'
        rename World => wr
        obtain ⟨i, rfl, hi, hP⟩ := hrel
        obtain ⟨D, d, rfl⟩ := own_slice hP.row
        have HP := Lib.hid hP
        have hlen : (Tr.puts m (l.take i)).length ≤ 200000 := by
          have h1 := Tr.puts_len m (l.take i)
          have h2 : (l.take i).length ≤ i := by rw [List.length_take]; omega
          have h3 := Hq.out
          omega
        have Hlen := Lib.hid hlen
        clear hP hlen
        by_cases hiq : i < kq
        · have z0 : decide ((i : Int) < (kq : Int)) = true := by rw [decide_eq_true_eq]; omega
          have z0' : decide (i < kq) = true := by rw [decide_eq_true_eq]; exact hiq
          have hqi : (i : Int) < (kq : Int) := by omega
          have hil : i < l.length := by rw [← Hkq.out]; exact hiq
          have Hil := Lib.hid hil
          obtain ⟨g, o, rfl, -, -⟩ := HK.out.ev (i := i) hil
          have Cell := Lib.hid (fun (X : World) (hX : Below W.heap.size W X) => show X.cell? ⟨g, o + i * 5, none⟩ = some (.int .i64 (l.getD i Tr.z).k) ∧ X.cell? ⟨g, o + i * 5 + 1, none⟩ = some (.int .i64 (l.getD i Tr.z).p.1) ∧ X.cell? ⟨g, o + i * 5 + 2, none⟩ = some (.int .i64 (l.getD i Tr.z).p.2.1) ∧ X.cell? ⟨g, o + i * 5 + 3, none⟩ = some (.int .i64 (l.getD i Tr.z).p.2.2) ∧ X.cell? ⟨g, o + i * 5 + 4, none⟩ = some (.int .i64 (l.getD i Tr.z).g) from by
            obtain ⟨g', o', e, -, h⟩ := (HK.out.below hX).ev Hil.out
            injection e with e
            injection e with e e'
            subst e; subst e'
            exact h)
          have Nx := Lib.hid (Tr.puts_take (m := m) Hil.out)
          obtain ⟨c0, c1, c2, c3, c4⟩ := Cell.out wr HP.out.bel
          obtain ⟨e, he⟩ : ∃ e, e = l.getD i Tr.z := ⟨_, rfl⟩
          rw [← he] at c0 c1 c2 c3 c4 Nx Cell
          clear he hil
          have HRow := Lib.hid HP.out.row
          obtain ⟨cur, hcur⟩ : ∃ x, x = Tr.puts m (l.take i) := ⟨_, rfl⟩
          rw [← hcur] at HRow Nx Hlen ⊢
          have HBw := Lib.hid HP.out.bel
          clear hcur HP
          obtain ⟨cn, hcn⟩ : ∃ n, n = cur.length := ⟨_, rfl⟩
          rw [← hcn] at HRow Hlen ⊢
          have Hcn := Lib.hid hcn
          clear hcn
          obtain ⟨ek, ⟨e1, e2, e3⟩, eg⟩ := e
          dsimp only at c0 c1 c2 c3 c4 Cell
          have Hek := Lib.hid (show (⟨ek, (e1, e2, e3), eg⟩ : Tr.E).k = ek from rfl)
          have hcl := Hlen.out
          go_wp2_with fail
          go_loopw [9] (fun v9 wx => ∃ k : Nat, v9 = .int .i64 (k : Int) ∧ k ≤ cn ∧ (∀ j, j < k → (cur.getD j Tr.z).k < ek) ∧ ∃ n, wx = wr.drewN n) (fun v9 _ => cn - (intOf v9).toNat)
          case atStart => exact ⟨0, rfl, Nat.zero_le _, fun j hj => absurd hj (Nat.not_lt_zero j), 0, rfl⟩
          case round =>
            obtain ⟨k, rfl, hk, hb, n, rfl⟩ := hrel
            have HBk := Lib.hid hb
            clear hb
            by_cases hkn : k < cn
            · have z4 : decide ((k : Int) < (cn : Int)) = true := by rw [decide_eq_true_eq]; omega
              have z4' : decide (k < cn) = true := by rw [decide_eq_true_eq]; exact hkn
              have zk : (0 : Int) ≤ (k : Int) ∧ (k : Int) < (cn : Int) := by omega
              obtain ⟨g8, d8, hA8⟩ := own_some HRow.out (by omega)
              injection hA8 with hD _ hd
              subst hD
              subst hd
              have hsl : SlC wr wr.heap.size (some ⟨g8, 0, none⟩) d cn (evs cur) := ⟨own_len HRow.out, own_none HRow.out, own_slW' HRow.out⟩
              obtain ⟨g8', o8, hge, -, x1, -⟩ := hsl.ev (i := k) (by rw [← Hcn.out]; exact hkn)
              injection hge with hge
              injection hge with hg1 hg2
              subst hg1
              subst hg2
              rw [Nat.zero_add] at x1
              obtain ⟨x, hx⟩ : ∃ x, x = (cur.getD k Tr.z).k := ⟨_, rfl⟩
              rw [← hx] at x1
              clear hsl
              by_cases hxe : x < ek
              · have z5 : decide (x < ek) = true := decide_eq_true hxe
                have Nk := Lib.hid (show ∀ j, j < k + 1 → (cur.getD j Tr.z).k < ek from fun j hj => by
                  rcases Nat.lt_or_ge j k with h | h
                  · exact HBk.out j h
                  · rw [show j = k by omega, ← hx]; exact hxe)
                clear hx hxe HBk
                go_wp2_with fail
                go_quiet (fail)
                go_wp2_with fail
                go_roundw
                case rel => exact ⟨k + 1, by go_num, by omega, Nk.out, n + nq, rfl⟩
                case measure => simp [intOf]; omega
              · have z5 : decide (x < ek) = false := decide_eq_false hxe
                have Hix := Lib.hid (show Tr.idx cur (⟨ek, (e1, e2, e3), eg⟩ : Tr.E).k = k from Tr.idx_is HBk.out (by rw [← Hcn.out]; exact hk) fun _ => by rw [← hx]; show ek ≤ x; omega)
                have Hkl := Lib.hid (show k < cur.length by rw [← Hcn.out]; exact hkn)
                by_cases hxq : x = ek
                · have z6 : decide (x = ek) = true := decide_eq_true hxq
                  have z6' : (x == ek) = true := by simpa using hxq
                  have Nx2 := Lib.hid (Nx.out.trans (Tr.ins_at Hix.out Hkl.out (by rw [← hx]; exact hxq)))
                  have hsz : (Try.prog.info? 87).map (·.size) = some 5 := by rw [hi0]; simp [hs0]
                  have Hkn := Lib.hid hkn
                  clear hx hxe HBk hxq
                  go_wp2_with fail
                  go_quiet (fail)
                  obtain ⟨n1, hn1⟩ : ∃ n1, n1 = nq := ⟨_, rfl⟩
                  rw [← hn1]
                  clear hn1
                  go_wp2_with fail
                  go_quiet (fail)
                  obtain ⟨W9, hW9⟩ : ∃ W, ((wr.drewN n).drewN n1).drewN nq = W := ⟨_, rfl⟩
                  have b9 := Lib.hid (show Below W.heap.size W W9 by rw [← hW9]; exact belowN (belowN (belowN HBw.out n) n1) nq)
                  have R9 := Lib.hid (show W9.ownsRow W.heap.size 87 5 (.slice (some ⟨g8, 0, none⟩) cn d) cn (evs cur) by rw [← hW9]; exact own_keep HRow.out fun _ _ _ => rfl)
                  rw [hW9]
                  clear hW9 c0 c1 c2 c3 c4 x1
                  obtain ⟨c0, c1, c2, c3, c4⟩ := Cell.out W9 b9.out
                  have N9 := Lib.hid (show PutI W (W9.setCells g8 (k * 5) [.int .i64 ek, .int .i64 e1, .int .i64 e2, .int .i64 e3, .int .i64 eg]) (.slice (some ⟨g8, 0, none⟩) cn d) (i + 1) m l from by
                    have hr := own_laid (evs [(⟨ek, (e1, e2, e3), eg⟩ : Tr.E)]) (evs cur) (k * 5) W9 R9.out
                    rw [lay_evs _ _ _ Hkl.out] at hr
                    exact ⟨by rw [Nx2.out, List.length_set, ← Hcn.out]; exact hr, below_setC (R9.out.lt g8 rfl).1 _ _ _ b9.out⟩)
                  go_wp2_with ((with_reducible show wpList _ _ _ (⟨none, Op.store 87 _ _, _, _, _, _⟩ :: _) _ _); refine wpList_store_mid rfl 87 _ _ rfl g8 (k * 5) _ rfl rfl (own_there R9.out Hkn.out) hsz (by simp [Value.oneCell']) ?_; skip)
                  go_roundw
                  case rel => exact ⟨i + 1, by go_num, by omega, N9.out⟩
                  case measure => simp [intOf]; omega
                · have z6 : decide (x = ek) = false := decide_eq_false hxq
                  have z6' : (x == ek) = false := by simpa using hxq
                  have Nx2 := Lib.hid (Nx.out.trans (Tr.ins_new Hix.out (fun h => hxq (hx.trans h.2))))
                  clear hx hxe HBk hxq
                  go_wp2_with fail
                  go_quiet (fail)
                  obtain ⟨n1, hn1⟩ : ∃ n1, n1 = nq := ⟨_, rfl⟩
                  rw [← hn1]
                  clear hn1
                  go_wp2_with fail
                  go_quiet (fail)
                  obtain ⟨W9, hW9⟩ : ∃ W, ((wr.drewN n).drewN n1).drewN nq = W := ⟨_, rfl⟩
                  have b9 := Lib.hid (show Below W.heap.size W W9 by rw [← hW9]; exact belowN (belowN (belowN HBw.out n) n1) nq)
                  have R9 := Lib.hid (show W9.ownsRow W.heap.size 87 5 (.slice (some ⟨g8, 0, none⟩) cn d) cn (evs cur) by rw [← hW9]; exact own_keep HRow.out fun _ _ _ => rfl)
                  rw [hW9]
                  clear hW9 c0 c1 c2 c3 c4
                  have hA8 := own_none R9.out
                  have hc8 := own_len R9.out
                  have hk8 : k ≤ d := by omega
                  have Lt := Lib.hid (show (evs (cur.take k)).length = k * 5 by rw [evs_len, List.length_take, ← Hcn.out]; omega)
                  have Ld := Lib.hid (show (evs (cur.drop k)).length = (cn - k) * 5 by rw [evs_len, List.length_drop, ← Hcn.out])
                  have osl := own_slW' R9.out
                  have St := Lib.hid (fun V (hb : Below W9.heap.size W9 V) => show Sl V W9.heap.size (some ⟨g8, 0, none⟩) (evs (cur.take k)) by rw [evs_take]; exact (osl.below hb).to (k * 5))
                  have Sd := Lib.hid (fun V (hb : Below W9.heap.size W9 V) => show Sl V W9.heap.size (cutW (some ⟨g8, 0, none⟩) d k 5) (evs (cur.drop k)) by rw [evs_drop]; exact (osl.below hb).fromW (cap := d) (by rw [evs_len, ← Hcn.out]; omega))
                  have hA9 : cutW (some ⟨g8, 0, none⟩) d k 5 = none → d - k = 0 := by
                    unfold cutW
                    by_cases hck : d = k
                    · intro _; omega
                    · rw [if_neg hck]
                      intro hn
                      have := hA8 (Option.map_eq_none_iff.1 hn)
                      omega
                  have hc9 : cn - k ≤ d - k := by omega
                  have cut1 : ∀ V, (Instr.slice 69 (.slice (some ⟨g8, 0, none⟩) cn d) none (some (.int .i64 (k : Int))) none).run Try.prog V = .ok (.slice (some ⟨g8, 0, none⟩) k d) V := run_slice_to (P := Try.prog) Try.underlying69 hi0 (some ⟨g8, 0, none⟩) cn d k hk8
                  have cut2 : ∀ V, (Instr.slice 69 (.slice (some ⟨g8, 0, none⟩) cn d) (some (.int .i64 (k : Int))) none none).run Try.prog V = .ok (.slice (cutW (some ⟨g8, 0, none⟩) d k 5) (cn - k) (d - k)) V := run_fromW (P := Try.prog) Try.underlying69 hi0 hs0 (some ⟨g8, 0, none⟩) cn d k hk
                  clear osl
                  generalize hC : cutW (some ⟨g8, 0, none⟩) d k 5 = A9 at *
                  clear hC
                  have hbc := (Below.refl W9.heap.size W9).drew
                  have Kp := Lib.hid (fun V (hb : Below W9.heap.size W9 V) => show V.cell? ⟨g, o + i * 5, none⟩ = some (.int .i64 ek) ∧ V.cell? ⟨g, o + i * 5 + 1, none⟩ = some (.int .i64 e1) ∧ V.cell? ⟨g, o + i * 5 + 2, none⟩ = some (.int .i64 e2) ∧ V.cell? ⟨g, o + i * 5 + 3, none⟩ = some (.int .i64 e3) ∧ V.cell? ⟨g, o + i * 5 + 4, none⟩ = some (.int .i64 eg) ∧ (Instr.slice 69 (.slice (some ⟨g8, 0, none⟩) cn d) none (some (.int .i64 (k : Int))) none).run Try.prog V = .ok (.slice (some ⟨g8, 0, none⟩) k d) V ∧ (Instr.slice 69 (.slice (some ⟨g8, 0, none⟩) cn d) (some (.int .i64 (k : Int))) none none).run Try.prog V = .ok (.slice A9 (cn - k) (d - k)) V from by
                    obtain ⟨h0, h1, h2, h3, h4⟩ := Cell.out V (b9.out.trans (hb.mono b9.out.size))
                    exact ⟨h0, h1, h2, h3, h4, cut1 V, cut2 V⟩)
                  clear cut1 cut2
                  go_upto_region 15 with fail
                  go_region_held3 (fun V => V.cell? ⟨g, o + i * 5, none⟩ = some (.int .i64 ek) ∧ V.cell? ⟨g, o + i * 5 + 1, none⟩ = some (.int .i64 e1) ∧ V.cell? ⟨g, o + i * 5 + 2, none⟩ = some (.int .i64 e2) ∧ V.cell? ⟨g, o + i * 5 + 3, none⟩ = some (.int .i64 e3) ∧ V.cell? ⟨g, o + i * 5 + 4, none⟩ = some (.int .i64 eg) ∧ (Instr.slice 69 (.slice (some ⟨g8, 0, none⟩) cn d) none (some (.int .i64 (k : Int))) none).run Try.prog V = .ok (.slice (some ⟨g8, 0, none⟩) k d) V ∧ (Instr.slice 69 (.slice (some ⟨g8, 0, none⟩) cn d) (some (.int .i64 (k : Int))) none none).run Try.prog V = .ok (.slice A9 (cn - k) (d - k)) V) (first | exact Kp.out _ hbc | exact Kp.out _ (hbc.alloc hbc.size _) | exact Kp.out _ (((Below.refl W9.heap.size W9).alloc (Nat.le_refl _) _).drew)) (first
                    | (refine step_append3 (base := W9.heap.size) _ rfl (.const (.slice none 0 0)) (.tmp 99) _ rfl Try.underlying69 hi0 hz0 hs0 hb0 rfl (by decide) rfl (World.ownsRow_nil _ _ _ _) (m := k) (news := evs (cur.take k)) rfl Lt.out hA8 hk8 (St.out _ hbc) (evs_one _) (by unfold maxLen; omega) (by omega) (Below.size hbc) ?_; intro v10 w10 h1 h2 _; have hsx := trivial; have hbc := (hbc).grown h2 (Below.size hbc) (fun g hg => by cases hg); rw [Nat.zero_add, List.nil_append] at h1; obtain ⟨A10, c10, rfl⟩ := own_slice h1; have M10 := Lib.hid h1; have SX := Lib.hid hsx; clear h1 h2 hsx)
                    | (refine step_append3 (base := W9.heap.size) _ rfl (.const (.slice none 0 0)) (.tmp 99) _ rfl Try.underlying69 hi0 hz0 hs0 hb0 rfl (by decide) rfl (World.ownsRow_nil _ _ _ _) (m := k) (news := evs (cur.take k)) rfl Lt.out hA8 hk8 (St.out _ (((Below.refl W9.heap.size W9).alloc (Nat.le_refl _) _).drew)) (evs_one _) (by unfold maxLen; omega) (by omega) (Below.size (((Below.refl W9.heap.size W9).alloc (Nat.le_refl _) _).drew)) ?_; intro v10 w10 h1 h2 _; have hsx := (show Sl w10 w10.heap.size (some ⟨W9.heap.size, 0, none⟩) (evs [(⟨ek, (e1, e2, e3), eg⟩ : Tr.E)]) from ((sl_five.below (Below.refl _ _).drew).more (by simp)).below ((Below.refl _ _).grown h2 (Nat.le_refl _) (fun g hg => by cases hg)) |>.more h2.size); have hbc := (((Below.refl W9.heap.size W9).alloc (Nat.le_refl _) _).drew).grown h2 (Below.size (((Below.refl W9.heap.size W9).alloc (Nat.le_refl _) _).drew)) (fun g hg => by cases hg); rw [Nat.zero_add, List.nil_append] at h1; obtain ⟨A10, c10, rfl⟩ := own_slice h1; have M10 := Lib.hid h1; have SX := Lib.hid hsx; clear h1 h2 hsx)
                    | (refine step_append3 (base := W9.heap.size) _ rfl (.tmp 100) (.tmp 105) _ rfl Try.underlying69 hi0 hz0 hs0 hb0 rfl (by decide) rfl (own_keep M10.out fun b _ hlt => Below.heap_alloc _ _ b hlt) (m := 1) (news := (evs [(⟨ek, (e1, e2, e3), eg⟩ : Tr.E)])) rfl rfl (by simp) (Nat.le_refl _) sl_five (evs_one _) (by unfold maxLen; omega) (by omega) (Below.size (hbc.alloc hbc.size _)) ?_; intro v11 w11 h1 h2 _; have hbc := ((hbc.alloc hbc.size _)).grown h2 (Below.size (hbc.alloc hbc.size _)) (fun g hg => (M10.out.lt g hg).1); rw [← evs_app] at h1; obtain ⟨A11, c11, rfl⟩ := own_slice h1; have M11 := Lib.hid h1; clear h1 h2)
                    | (refine step_append3 (base := W9.heap.size) _ rfl (.tmp 100) (.tmp 105) _ rfl Try.underlying69 hi0 hz0 hs0 hb0 rfl (by decide) rfl M10.out (m := 1) (news := (evs [(⟨ek, (e1, e2, e3), eg⟩ : Tr.E)])) rfl rfl (by simp) (Nat.le_refl _) SX.out (evs_one _) (by unfold maxLen; omega) (by omega) (Below.size hbc) ?_; intro v11 w11 h1 h2 _; have hbc := (hbc).grown h2 (Below.size hbc) (fun g hg => (M10.out.lt g hg).1); rw [← evs_app] at h1; obtain ⟨A11, c11, rfl⟩ := own_slice h1; have M11 := Lib.hid h1; clear h1 h2)
                    | (refine step_append3 (base := W9.heap.size) _ rfl (.tmp 106) (.tmp 109) _ rfl Try.underlying69 hi0 hz0 hs0 hb0 rfl (by decide) rfl M11.out (m := cn - k) (news := evs (cur.drop k)) rfl Ld.out hA9 hc9 (Sd.out _ hbc) (evs_one _) (by unfold maxLen; omega) (by omega) (Below.size hbc) ?_; intro v12 w12 h1 h2 _; have hbc := hbc.grown h2 (Below.size hbc) (fun g hg => (M11.out.lt g hg).1); rw [← evs_app] at h1; obtain ⟨A12, c12, rfl⟩ := own_slice h1; have M12 := Lib.hid h1; clear h1 h2))
                  all_goals
                    have N9 := Lib.hid (show PutI W w12 (.slice A12 (k + 1 + (cn - k)) c12) (i + 1) m l from by
                      refine ⟨?_, b9.out.trans (hbc.mono b9.out.size)⟩
                      have hl : (Tr.puts m (l.take (i + 1))).length = k + 1 + (cn - k) := by rw [Nx2.out, List.length_append, List.length_append, List.length_take, List.length_drop, List.length_singleton, ← Hcn.out]; omega
                      rw [hl, Nx2.out]
                      exact World.ownsRow_base M12.out b9.out.size)
                    clear hbc M12 M11 M10 SX
                    go_wp2_with fail
                    go_roundw
                    case rel => exact ⟨i + 1, by go_num, by omega, N9.out⟩
                    case measure => simp [intOf]; omega
            · have z4 : decide ((k : Int) < (cn : Int)) = false := by rw [decide_eq_false_iff_not]; omega
              have z4' : decide (k < cn) = false := by rw [decide_eq_false_iff_not]; exact hkn
              have Hix := Lib.hid (show Tr.idx cur (⟨ek, (e1, e2, e3), eg⟩ : Tr.E).k = k from Tr.idx_is HBk.out (by rw [← Hcn.out]; exact hk) fun h => absurd (by rw [Hcn.out]; exact h) hkn)
              have Nx2 := Lib.hid (Nx.out.trans (Tr.ins_new Hix.out (fun h => hkn (by rw [Hcn.out]; exact h.1))))
              clear HBk
              go_wp2_with fail
              go_quiet (fail)
              obtain ⟨n1, hn1⟩ : ∃ n1, n1 = nq := ⟨_, rfl⟩
              rw [← hn1]
              clear hn1
              go_wp2_with fail
              go_quiet (fail)
              obtain ⟨W9, hW9⟩ : ∃ W, ((wr.drewN n).drewN n1).drewN nq = W := ⟨_, rfl⟩
              have b9 := Lib.hid (show Below W.heap.size W W9 by rw [← hW9]; exact belowN (belowN (belowN HBw.out n) n1) nq)
              have R9 := Lib.hid (show W9.ownsRow W.heap.size 87 5 (.slice D cn d) cn (evs cur) by rw [← hW9]; exact own_keep HRow.out fun _ _ _ => rfl)
              rw [hW9]
              clear hW9 c0 c1 c2 c3 c4
              have hA8 := own_none R9.out
              have hc8 := own_len R9.out
              have hk8 : k ≤ d := by omega
              have Lt := Lib.hid (show (evs (cur.take k)).length = k * 5 by rw [evs_len, List.length_take, ← Hcn.out]; omega)
              have Ld := Lib.hid (show (evs (cur.drop k)).length = (cn - k) * 5 by rw [evs_len, List.length_drop, ← Hcn.out])
              have osl := own_slW' R9.out
              have St := Lib.hid (fun V (hb : Below W9.heap.size W9 V) => show Sl V W9.heap.size D (evs (cur.take k)) by rw [evs_take]; exact (osl.below hb).to (k * 5))
              have Sd := Lib.hid (fun V (hb : Below W9.heap.size W9 V) => show Sl V W9.heap.size (cutW D d k 5) (evs (cur.drop k)) by rw [evs_drop]; exact (osl.below hb).fromW (cap := d) (by rw [evs_len, ← Hcn.out]; omega))
              have hA9 : cutW D d k 5 = none → d - k = 0 := by
                unfold cutW
                by_cases hck : d = k
                · intro _; omega
                · rw [if_neg hck]
                  intro hn
                  have := hA8 (Option.map_eq_none_iff.1 hn)
                  omega
              have hc9 : cn - k ≤ d - k := by omega
              have cut1 : ∀ V, (Instr.slice 69 (.slice D cn d) none (some (.int .i64 (k : Int))) none).run Try.prog V = .ok (.slice D k d) V := run_slice_to (P := Try.prog) Try.underlying69 hi0 D cn d k hk8
              have cut2 : ∀ V, (Instr.slice 69 (.slice D cn d) (some (.int .i64 (k : Int))) none none).run Try.prog V = .ok (.slice (cutW D d k 5) (cn - k) (d - k)) V := run_fromW (P := Try.prog) Try.underlying69 hi0 hs0 D cn d k hk
              clear osl
              generalize hC : cutW D d k 5 = A9 at *
              clear hC
              have hbc := (Below.refl W9.heap.size W9).drew
              have Kp := Lib.hid (fun V (hb : Below W9.heap.size W9 V) => show V.cell? ⟨g, o + i * 5, none⟩ = some (.int .i64 ek) ∧ V.cell? ⟨g, o + i * 5 + 1, none⟩ = some (.int .i64 e1) ∧ V.cell? ⟨g, o + i * 5 + 2, none⟩ = some (.int .i64 e2) ∧ V.cell? ⟨g, o + i * 5 + 3, none⟩ = some (.int .i64 e3) ∧ V.cell? ⟨g, o + i * 5 + 4, none⟩ = some (.int .i64 eg) ∧ (Instr.slice 69 (.slice D cn d) none (some (.int .i64 (k : Int))) none).run Try.prog V = .ok (.slice D k d) V ∧ (Instr.slice 69 (.slice D cn d) (some (.int .i64 (k : Int))) none none).run Try.prog V = .ok (.slice A9 (cn - k) (d - k)) V from by
                obtain ⟨h0, h1, h2, h3, h4⟩ := Cell.out V (b9.out.trans (hb.mono b9.out.size))
                exact ⟨h0, h1, h2, h3, h4, cut1 V, cut2 V⟩)
              clear cut1 cut2
              go_upto_region 15 with fail
              go_region_held3 (fun V => V.cell? ⟨g, o + i * 5, none⟩ = some (.int .i64 ek) ∧ V.cell? ⟨g, o + i * 5 + 1, none⟩ = some (.int .i64 e1) ∧ V.cell? ⟨g, o + i * 5 + 2, none⟩ = some (.int .i64 e2) ∧ V.cell? ⟨g, o + i * 5 + 3, none⟩ = some (.int .i64 e3) ∧ V.cell? ⟨g, o + i * 5 + 4, none⟩ = some (.int .i64 eg) ∧ (Instr.slice 69 (.slice D cn d) none (some (.int .i64 (k : Int))) none).run Try.prog V = .ok (.slice D k d) V ∧ (Instr.slice 69 (.slice D cn d) (some (.int .i64 (k : Int))) none none).run Try.prog V = .ok (.slice A9 (cn - k) (d - k)) V) (first | exact Kp.out _ hbc | exact Kp.out _ (hbc.alloc hbc.size _) | exact Kp.out _ (((Below.refl W9.heap.size W9).alloc (Nat.le_refl _) _).drew)) (first
                | (refine step_append3 (base := W9.heap.size) _ rfl (.const (.slice none 0 0)) (.tmp 99) _ rfl Try.underlying69 hi0 hz0 hs0 hb0 rfl (by decide) rfl (World.ownsRow_nil _ _ _ _) (m := k) (news := evs (cur.take k)) rfl Lt.out hA8 hk8 (St.out _ hbc) (evs_one _) (by unfold maxLen; omega) (by omega) (Below.size hbc) ?_; intro v10 w10 h1 h2 _; have hsx := trivial; have hbc := (hbc).grown h2 (Below.size hbc) (fun g hg => by cases hg); rw [Nat.zero_add, List.nil_append] at h1; obtain ⟨A10, c10, rfl⟩ := own_slice h1; have M10 := Lib.hid h1; have SX := Lib.hid hsx; clear h1 h2 hsx)
                | (refine step_append3 (base := W9.heap.size) _ rfl (.const (.slice none 0 0)) (.tmp 99) _ rfl Try.underlying69 hi0 hz0 hs0 hb0 rfl (by decide) rfl (World.ownsRow_nil _ _ _ _) (m := k) (news := evs (cur.take k)) rfl Lt.out hA8 hk8 (St.out _ (((Below.refl W9.heap.size W9).alloc (Nat.le_refl _) _).drew)) (evs_one _) (by unfold maxLen; omega) (by omega) (Below.size (((Below.refl W9.heap.size W9).alloc (Nat.le_refl _) _).drew)) ?_; intro v10 w10 h1 h2 _; have hsx := (show Sl w10 w10.heap.size (some ⟨W9.heap.size, 0, none⟩) (evs [(⟨ek, (e1, e2, e3), eg⟩ : Tr.E)]) from ((sl_five.below (Below.refl _ _).drew).more (by simp)).below ((Below.refl _ _).grown h2 (Nat.le_refl _) (fun g hg => by cases hg)) |>.more h2.size); have hbc := (((Below.refl W9.heap.size W9).alloc (Nat.le_refl _) _).drew).grown h2 (Below.size (((Below.refl W9.heap.size W9).alloc (Nat.le_refl _) _).drew)) (fun g hg => by cases hg); rw [Nat.zero_add, List.nil_append] at h1; obtain ⟨A10, c10, rfl⟩ := own_slice h1; have M10 := Lib.hid h1; have SX := Lib.hid hsx; clear h1 h2 hsx)
                | (refine step_append3 (base := W9.heap.size) _ rfl (.tmp 100) (.tmp 105) _ rfl Try.underlying69 hi0 hz0 hs0 hb0 rfl (by decide) rfl (own_keep M10.out fun b _ hlt => Below.heap_alloc _ _ b hlt) (m := 1) (news := (evs [(⟨ek, (e1, e2, e3), eg⟩ : Tr.E)])) rfl rfl (by simp) (Nat.le_refl _) sl_five (evs_one _) (by unfold maxLen; omega) (by omega) (Below.size (hbc.alloc hbc.size _)) ?_; intro v11 w11 h1 h2 _; have hbc := ((hbc.alloc hbc.size _)).grown h2 (Below.size (hbc.alloc hbc.size _)) (fun g hg => (M10.out.lt g hg).1); rw [← evs_app] at h1; obtain ⟨A11, c11, rfl⟩ := own_slice h1; have M11 := Lib.hid h1; clear h1 h2)
                | (refine step_append3 (base := W9.heap.size) _ rfl (.tmp 100) (.tmp 105) _ rfl Try.underlying69 hi0 hz0 hs0 hb0 rfl (by decide) rfl M10.out (m := 1) (news := (evs [(⟨ek, (e1, e2, e3), eg⟩ : Tr.E)])) rfl rfl (by simp) (Nat.le_refl _) SX.out (evs_one _) (by unfold maxLen; omega) (by omega) (Below.size hbc) ?_; intro v11 w11 h1 h2 _; have hbc := (hbc).grown h2 (Below.size hbc) (fun g hg => (M10.out.lt g hg).1); rw [← evs_app] at h1; obtain ⟨A11, c11, rfl⟩ := own_slice h1; have M11 := Lib.hid h1; clear h1 h2)
                | (refine step_append3 (base := W9.heap.size) _ rfl (.tmp 106) (.tmp 109) _ rfl Try.underlying69 hi0 hz0 hs0 hb0 rfl (by decide) rfl M11.out (m := cn - k) (news := evs (cur.drop k)) rfl Ld.out hA9 hc9 (Sd.out _ hbc) (evs_one _) (by unfold maxLen; omega) (by omega) (Below.size hbc) ?_; intro v12 w12 h1 h2 _; have hbc := hbc.grown h2 (Below.size hbc) (fun g hg => (M11.out.lt g hg).1); rw [← evs_app] at h1; obtain ⟨A12, c12, rfl⟩ := own_slice h1; have M12 := Lib.hid h1; clear h1 h2))
              all_goals
                have N9 := Lib.hid (show PutI W w12 (.slice A12 (k + 1 + (cn - k)) c12) (i + 1) m l from by
                  refine ⟨?_, b9.out.trans (hbc.mono b9.out.size)⟩
                  have hl : (Tr.puts m (l.take (i + 1))).length = k + 1 + (cn - k) := by rw [Nx2.out, List.length_append, List.length_append, List.length_take, List.length_drop, List.length_singleton, ← Hcn.out]; omega
                  rw [hl, Nx2.out]
                  exact World.ownsRow_base M12.out b9.out.size)
                clear hbc M12 M11 M10 SX
                go_wp2_with fail
                go_roundw
                case rel => exact ⟨i + 1, by go_num, by omega, N9.out⟩
                case measure => simp [intOf]; omega
        · have hiq' : i = kq := by omega
          have z0 : decide ((i : Int) < (kq : Int)) = false := by rw [decide_eq_false_iff_not]; omega
          have z0' : decide (i < kq) = false := by rw [decide_eq_false_iff_not]; exact hiq
          have hall : l.take i = l := List.take_of_length_le (by rw [← Hkq.out]; omega)
          have HPx := HP.out
          rw [hall] at HPx Hlen ⊢
          have by2 : Blk wr rb 71 #[.slice none 0 0] := BY.out.keep (HPx.bel.block rb HMW.out.2)
          have Row := HPx.row
          rw [hall] at Row
          obtain ⟨s1, q1⟩ : ∃ s, wr.setCell ⟨rb, 0, none⟩ (.slice D (Tr.puts m l).length d) = s := ⟨_, rfl⟩
          have B1 : Blk s1 rb 71 #[.slice D (Tr.puts m l).length d] := by rw [← q1]; exact by2.set_ 0 _
          have b1 : Below b w s1 := by rw [← q1]; exact (HB.out.trans (HPx.bel.mono (Nat.le_of_lt HMW.out.1))).setCell (p := ⟨rb, 0, none⟩) HL.out _
          have R1 : s1.ownsRow W.heap.size 87 5 (.slice D (Tr.puts m l).length d) (Tr.puts m l).length (evs (Tr.puts m l)) := by
            rw [← q1]
            exact own_keep Row fun b' hb' _ => Below.heap_setCell _ _ _ _ (fun e => by have := (Row.lt b' hb').1; have := HMW.out.2; simp only at e; omega)
          have Fin := Lib.hid (HPw.out (.returned (.tuple #[.agg #[.slice D (Tr.puts m l).length d], .bool true])) s1 (.inr ⟨HOk.out, D, d, rfl, ⟨own_len R1, own_none R1, own_slW' R1⟩, fun a ha => Nat.le_trans (Nat.le_of_lt HMW.out.1) (R1.lt a.block (by rw [ha]; rfl)).1⟩) b1)
          have f0 := by2.frozen 0
          have u0 : wr.cell? ⟨rb, 0, none⟩ = some (.slice none 0 0) := by2.cell 0
          have y0 : s1.cell? ⟨rb, 0, none⟩ = some (.slice D (Tr.puts m l).length d) := B1.cell 0
          clear B1 R1 Row by2 b1 hall hiq' hiq HPx
          go_wp2_with fail
          refine bodyPost_ret (v := .tuple #[.agg #[.slice D (Tr.puts m l).length d], .bool true]) ?_ rfl Fin.out
          simp [results, Try.results44]
          go_simp
end Go.Proofs.Ytlcchefiicalpaa
