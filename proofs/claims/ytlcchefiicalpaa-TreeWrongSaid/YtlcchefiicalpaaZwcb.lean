/- The program's merged. -/
import Derived.Test.YtlcchefiicalpaaZwbd
import Derived.Test.YtlcchefiicalpaaZwbj
import Derived.BigQuiet
namespace Go.Proofs.Ytlcchefiicalpaa
open Go.RowKit
/-- An entry as a part's cells. -/
def pcE (e : Tr.E) : Tr.PC := ⟨e.k, e, Tr.bz, false, none, 0, 0⟩
theorem plx_head {X : Nat → Prop} {w : World} {y : Tr.E} {b : List Tr.E} {A : Option Addr} {c : Nat} (h : PLX X w 0 (y :: b) A c) : ∃ g o, A = some ⟨g, o, none⟩ ∧ Fast X w fun u => u.rangeAt g o (pc1 (pcE y)) := by
  have K : ∀ u, PL u 0 (y :: b) A c → ∃ g o, A = some ⟨g, o, none⟩ ∧ u.rangeAt g o (pc1 (pcE y)) := fun u hu => by
    obtain ⟨cs, h1, h2⟩ := hu
    have hl := h2.1
    obtain ⟨p, x, hp, hx⟩ := get_of_len hl (i := 0) (Nat.succ_pos _)
    have e := h2.2 0 p x hp hx
    injection hp with hp
    subst hp
    obtain ⟨g, o, e1, -, e2⟩ := h1.sl.range hx
    rw [Nat.zero_mul, Nat.add_zero] at e2
    have e : x = pcE y := e
    exact ⟨g, o, e1, e ▸ e2⟩
  obtain ⟨g, o, e1, -⟩ := K w h.now
  refine ⟨g, o, e1, fun u q => ?_⟩
  obtain ⟨g', o', e2, e3⟩ := K u (h u q)
  rw [e1] at e2
  injection e2 with e2
  injection e2 with e2 e4
  subst e2; subst e4
  exact e3
theorem plx_tail {X : Nat → Prop} {w : World} {y : Tr.E} {b : List Tr.E} {A : Option Addr} {c : Nat} (h : PLX X w 0 (y :: b) A c) : PLX X w 0 b (cutW A c 1 14) (c - 1) := fun u q => by
  have := (h u q).sub (i := 1) (j := b.length + 1) (by omega) (Nat.le_refl _)
  have e : (((y :: b).drop 1).take (b.length + 1 - 1) : List Tr.E) = b := by simp
  exact Eq.subst (motive := fun (l : List Tr.E) => PL u 0 l (cutW A c 1 14) (c - 1)) e this
theorem own_ne6 {X : World} {base : Nat} {e t : TypeId} {size n g : Nat} {v : Value} {xs : List Value} {cs : Array Value} (h : X.ownsRow base e size v n xs) (hg : Blk X g t cs) (hne : e ≠ t) : v.ownBlock ≠ some g := fun hb => by
  rcases h.2 with ⟨e0, -⟩ | ⟨g', cap, cur, e0, -, hh, -⟩
  · subst e0; simp [Value.ownBlock] at hb
  · subst e0
    injection hb with hb
    subst hb
    have : some (Obj.cells cur e (0, 0)) = some (Obj.cells cs t (0, 0)) := hh.symm.trans hg
    injection this with this
    injection this with _ e1
    exact hne e1
theorem sl_14d {w : World} {x : Tr.PC} {t : TypeId} : Sl (w.alloc (.cells #[.int .i64 x.k, .int .i64 x.e.k, .int .i64 x.e.p.1, .int .i64 x.e.p.2.1, .int .i64 x.e.p.2.2, .int .i64 x.e.g, .int .i64 x.b.k.1, .int .i64 x.b.k.2.1, .int .i64 x.b.k.2.2, .int .i64 x.b.h, .int .i64 x.b.f, .int .i64 x.b.t, .bool x.fr, .slice x.A x.n x.c] t)).drew (w.heap.size + 1) (some ⟨w.heap.size, 0, none⟩) (pcs [x]) := sl_14
/-- Where the inner loop of merged stands: a is out, b is left of r. -/
structure MgI (X : Nat → Prop) (w : World) (K : Int) (o r : List Tr.E) (g : Nat) (C : Array Value) (a b : List Tr.E) (v5 : Value) (cs : List Tr.PC) (A : Option Addr) (c : Nat) (wi : World) : Prop where
  row : PQ X wi w.heap.size 0 (o ++ a) v5 cs
  bel : Below w.heap.size w wi
  eq : r = a ++ b
  lt : ∀ y ∈ a, y.k < K
  blk : Blk wi g 146 C
  plx : PLX X w 0 b A c
section
variable {X : Nat → Prop} {w : World} {K : Int} {o r : List Tr.E} {g : Nat} {C : Array Value} {a b : List Tr.E} {v5 : Value} {cs : List Tr.PC} {A : Option Addr} {c : Nat} {wi : World}
theorem MgI.drewN (h : MgI X w K o r g C a b v5 cs A c wi) (n : Nat) : MgI X w K o r g C a b v5 cs A c (wi.drewN n) :=
  ⟨h.row.below (belowN (Below.refl _ _) n), belowN h.bel n, h.eq, h.lt, h.blk, h.plx⟩
theorem MgI.push {y : Tr.E} {b' : List Tr.E} (h : MgI X w K o r g C a (y :: b') v5 cs A c wi) (hX : ∀ b, X b → b < w.heap.size) (hy : y.k < K) {m : Nat} (hm : (o ++ a).length = m) {w6 w7 : World} {v7 : Value} (hb : Below wi.heap.size wi w6)
    (o7 : w7.ownsRow w.heap.size 160 14 v7 (m + 1) (pcs cs ++ pcs [pcE y])) (g7 : w6.grownBy w7 v5.ownBlock) (hv : v7.ownBlock = v5.ownBlock ∨ v7.ownBlock = some w6.heap.size) : MgI X w K o r g C (a ++ [y]) b' v7 (cs ++ [pcE y]) (cutW A c 1 14) (c - 1) w7 := by
  have hB := h.bel.trans (hb.mono h.bel.size)
  obtain ⟨r1, r2⟩ := pq_next (X := X) (h := 0) (l := (show List Tr.E from o ++ a)) (l' := (show List Tr.E from o ++ (a ++ [y]))) (p := y) (x := pcE y) (List.append_assoc ..).symm hm hX (h.row.below hb) hB (fun u _ => rfl) o7 g7 hv
  refine ⟨r1, r2, by rw [h.eq]; simp, fun z hz => ?_, ?_, plx_tail h.plx⟩
  · rcases List.mem_append.1 hz with hz | hz
    · exact h.lt z hz
    · rw [List.mem_singleton] at hz; exact hz ▸ hy
  · have hk : Blk w6 g 146 C := h.blk.keep (hb.block g h.blk.lt)
    exact hk.grown g7 (own_ne6 (h.row.below hb).own hk (by decide))
theorem tw_is {p : Tr.E → Bool} : ∀ {a b : List Tr.E}, (∀ y ∈ a, p y = true) → (∀ y b', b = y :: b' → p y = false) → (a ++ b).takeWhile p = a ∧ (a ++ b).dropWhile p = b
  | [], [], _, _ => ⟨rfl, rfl⟩
  | [], y :: b, _, h => by
    have := h y b rfl
    exact ⟨by rw [List.nil_append, List.takeWhile_cons_of_neg (by rw [this]; decide)], by rw [List.nil_append, List.dropWhile_cons_of_neg (by rw [this]; decide)]⟩
  | x :: a, b, h1, h2 => by
    have hx := h1 x (List.mem_cons_self ..)
    obtain ⟨h3, h4⟩ := tw_is (a := a) (b := b) (fun y hy => h1 y (List.mem_cons_of_mem _ hy)) h2
    exact ⟨by rw [List.cons_append, List.takeWhile_cons_of_pos hx, h3], by rw [List.cons_append, List.dropWhile_cons_of_pos hx, h4]⟩
end
/-- Where the outer loop stands. -/
structure MgO (X : Nat → Prop) (w : World) (L : List Tr.E) (eds : List Tr.Ed) (i : Nat) (v0 v5 : Value) (wr : World) : Prop where
  ex : ∃ A c cs, v0 = .slice A (Tr.mgO (eds.take i) [] L).2.length c ∧ PLX X w 0 (Tr.mgO (eds.take i) [] L).2 A c ∧ PQ X wr w.heap.size 0 (Tr.mgO (eds.take i) [] L).1 v5 cs
  bel : Below w.heap.size w wr
theorem mg_next {eds : List Tr.Ed} {i : Nat} {x : Tr.Ed} (hx : eds[i]? = some x) {L o r a b : List Tr.E} (hm : Tr.mgO (eds.take i) [] L = (o, r)) (he : r = a ++ b) (h1 : ∀ y ∈ a, y.k < x.x.k) (h2 : ∀ y b', b = y :: b' → ¬ y.k < x.x.k) : Tr.mgO (eds.take (i + 1)) [] L = ((o ++ a) ++ (if x.cut then [] else [x.x]), Tr.dropEq b x.x.k) := by
  have e : eds.take (i + 1) = eds.take i ++ [x] := by rw [List.take_add_one, hx]; rfl
  obtain ⟨t1, t2⟩ := tw_is (p := fun y => decide (y.k < x.x.k)) (a := a) (b := b) (fun y hy => by simpa using h1 y hy) (fun y b' hb => by simpa using h2 y b' hb)
  rw [e, Tr.mgO_app, hm]
  dsimp only
  unfold Tr.rest
  rw [he, t1, t2]
theorem mg_out {X : Nat → Prop} {w : World} {L o r a b r' : List Tr.E} {eds : List Tr.Ed} {i g k : Nat} {x : Tr.Ed} {K : Int} {ct : Bool} {C : Array Value} {v5 v5' : Value} {cs cs' : List Tr.PC} {A A' : Option Addr} {c c' : Nat} {wi w7 : World} (hx : eds[i]? = some x) (hK : x.x.k = K) (hct : x.cut = ct) (hm : Tr.mgO (eds.take i) [] L = (o, r)) (hI : MgI X w K o r g C a b v5 cs A c wi) (h2 : ∀ y b', b = y :: b' → K ≤ y.k)
    (hr : Tr.dropEq b K = r') (hp : PLX X w 0 r' A' c') (hq : PQ X w7 w.heap.size 0 ((o ++ a) ++ (if ct then [] else [x.x])) v5' cs') (hB : Below w.heap.size w w7) (hk : r'.length = k) : MgO X w L eds (i + 1) (.slice A' k c') v5' w7 := by
  subst hK
  subst hct
  have e := mg_next hx hm hI.eq hI.lt fun y b' h => Int.not_lt.2 (h2 y b' h)
  rw [hr] at e
  subst hk
  exact ⟨⟨A', c', cs', by rw [e], by rw [e]; exact hp, by rw [e]; exact hq⟩, hB⟩
def lenM : Value → Nat
  | .slice _ n _ => n
  | _ => 0
set_option maxRecDepth 8000 in
set_option maxHeartbeats 16000000 in
theorem merged_any {w : World} {X : Nat → Prop} {L : List Tr.E} {A : Option Addr} {c : Nat} {eds : List Tr.Ed} {Ae : Option Addr} {ce n : Nat} (hX : ∀ b, X b → b < w.heap.size) (hl : PLX X w 0 L A c) (few : L.length ≤ 1000000) (he : SlC w w.heap.size Ae ce n (edcs eds)) (hn : eds.length = n) (few2 : n ≤ 1000000) :
    Calls Try.prog 95 #[.slice A L.length c, .slice Ae n ce] w fun e w' => Below w.heap.size w w' ∧ ∃ A' c', e = .returned (.slice A' (Tr.merged eds L).length c') ∧ PLX X w' 0 (Tr.merged eds L) A' c' := by
  obtain ⟨i0, hi0, hz0, hs0, hb0'⟩ := part_parts
  obtain ⟨d0, hd0, hd0'⟩ := part_row
  obtain ⟨d1, hd1, hd2⟩ := edit_row
  have HX := Lib.hid hX
  have HE := Lib.hid he
  have Hn := Lib.hid hn
  have HL := Lib.hid hl
  have HLf := Lib.hid few
  have Hlen := Lib.hid (show ∀ i, (Tr.mgO (eds.take i) [] L).1.length + (Tr.mgO (eds.take i) [] L).2.length ≤ 2000000 from fun i => by
    have h1 := Tr.mgO_len (eds.take i) [] L
    have h2 : (eds.take i).length ≤ n := by rw [List.length_take, hn]; exact Nat.min_le_right _ _
    simp only [List.length_nil] at h1
    omega)
  obtain ⟨n0, hn0⟩ : ∃ k, L.length = k := ⟨_, rfl⟩
  have Hn0 := Lib.hid hn0
  rw [hn0]
  clear hX he hn hl few hn0
  go_enter Try.func95, Try.ntmps95
  go_wp2_with fail
  go_loopw [0, 5, 10] (fun v0 v5 v10 wr => ∃ i : Nat, v10 = .int .i64 (i : Int) ∧ i ≤ n ∧ MgO X w L eds i v0 v5 wr) (fun _ _ v10 _ => n - (intOf v10).toNat)
  case atStart => exact ⟨0, rfl, Nat.zero_le _, ⟨A, c, [], by rw [← Hn0.out]; rfl, HL.out, PQ.nil _ _ _ _⟩, Below.refl _ _⟩
  case round =>
    obtain ⟨i, rfl, hi, hO⟩ := hrel
    obtain ⟨⟨A0, c0, cs, rfl, hp, hq⟩, hB⟩ := hO
    obtain ⟨o, ho⟩ : ∃ o, (Tr.mgO (eds.take i) [] L).1 = o := ⟨_, rfl⟩
    obtain ⟨r, hr⟩ : ∃ r, (Tr.mgO (eds.take i) [] L).2 = r := ⟨_, rfl⟩
    have Hm := Lib.hid (show Tr.mgO (eds.take i) [] L = (o, r) by rw [← ho, ← hr])
    have hb2 := Hlen.out i
    rw [ho, hr] at hb2
    rw [ho] at hq
    rw [hr] at hp ⊢
    have Hb2 := Lib.hid hb2
    obtain ⟨m0, hm0⟩ : ∃ m, r.length = m := ⟨_, rfl⟩
    have Hm0 := Lib.hid hm0
    rw [hm0]
    obtain ⟨q0, hq0⟩ : ∃ q, o.length = q := ⟨_, rfl⟩
    obtain ⟨O, co, rfl⟩ : ∃ A' c', u5 = .slice A' q0 c' := by
      obtain ⟨A', c', e⟩ := hq.form
      exact ⟨A', c', e.trans (by rw [show @List.length (Tr.Pt 0) o = q0 from hq0])⟩
    have HP := Lib.hid hp
    have HQ := Lib.hid hq
    have HB := Lib.hid hB
    have Hq0 := Lib.hid hq0
    clear hp hq ho hr hm0 hb2 hq0
    by_cases hik : i < n
    · have y0 : decide ((i : Int) < (n : Int)) = true := by rw [decide_eq_true_eq]; omega
      have y1 : (i : Int) < (n : Int) := by omega
      have Wi : wrap64 ((i : Int) + 1) = (i : Int) + 1 := by simp only [wrap64]; omega
      obtain ⟨x, hx⟩ : ∃ x, eds[i]? = some x := ⟨_, List.getElem?_eq_getElem (by rw [Hn.out]; exact hik)⟩
      obtain ⟨eb, eo, rfl, hb1, erg⟩ := (HE.out.below hB).sl.edit hx
      obtain ⟨⟨K, ⟨p1, p2, p3⟩, pg⟩, ct⟩ := x
      have Hx := Lib.hid hx
      have Hik := Lib.hid hik
      obtain ⟨g, hg⟩ : ∃ g, wr.heap.size = g := ⟨_, rfl⟩
      have bx : Blk (wr.alloc (.cells #[.int .i64 K, .int .i64 p1, .int .i64 p2, .int .i64 p3, .int .i64 pg, .bool ct] 146)) g 146 #[.int .i64 K, .int .i64 p1, .int .i64 p2, .int .i64 p3, .int .i64 pg, .bool ct] := by rw [← hg]; exact Blk.new _ _ _
      have HI0 := Lib.hid (show MgI X w K o r g #[.int .i64 K, .int .i64 p1, .int .i64 p2, .int .i64 p3, .int .i64 pg, .bool ct] [] r (.slice O q0 co) cs A0 c0 (wr.alloc (.cells #[.int .i64 K, .int .i64 p1, .int .i64 p2, .int .i64 p3, .int .i64 pg, .bool ct] 146)) from ⟨by rw [List.append_nil]; exact HQ.out.below (below_alloc1 _ _), HB.out.trans ((below_alloc1 _ _).mono HB.out.size), rfl, (fun y hy => by cases hy), bx, HP.out⟩)
      clear bx hx hik hB hb1
      go_wp2_with (first
        | ((with_reducible show wpList _ _ _ (⟨some 13, Op.load 146 _, _, _, _, _⟩ :: _) _ _); refine wpList_load_mid rfl 146 _ rfl eb (eo + i * 6) rfl [.int .i64 K, .int .i64 p1, .int .i64 p2, .int .i64 p3, .int .i64 pg, .bool ct] d1 erg hd1 hd2 edit_size ?_))
      go_loopw [0, 5] (fun v0 v5 wi => ∃ (a b : List Tr.E) (cs : List Tr.PC) (A : Option Addr) (c : Nat), v0 = .slice A b.length c ∧ MgI X w K o r g #[.int .i64 K, .int .i64 p1, .int .i64 p2, .int .i64 p3, .int .i64 pg, .bool ct] a b v5 cs A c wi) (fun v0 _ _ => lenM v0)
      case atStart => exact ⟨[], r, cs, A0, c0, by rw [Hm0.out], HI0.out⟩
      case round =>
        obtain ⟨a, b, cs1, A1, c1, rfl, hI⟩ := hrel
        clear hg erg HI0
        obtain ⟨m, hm⟩ : ∃ m, b.length = m := ⟨_, rfl⟩
        have Hmb := Lib.hid hm
        rw [hm]
        obtain ⟨q, hq⟩ : ∃ q, (o ++ a).length = q := ⟨_, rfl⟩
        have Hq := Lib.hid hq
        obtain ⟨O1, co1, rfl⟩ : ∃ A' c', u5 = .slice A' q c' := by
          obtain ⟨A', c', e⟩ := hI.row.form
          exact ⟨A', c', e.trans (by rw [show @List.length (Tr.Pt 0) (o ++ a) = q from hq])⟩
        have hqm : q + m ≤ 2000000 := by
          have h1 := Hb2.out
          rw [hI.eq, List.length_append, hm] at h1
          rw [List.length_append] at hq
          omega
        have HI := Lib.hid hI
        have Hb2 := Lib.hid hqm
        have x0 := hI.blk.cell 0
        have x5 := hI.blk.cell 5
        clear hq hm hI
        cases b with
        | nil =>
          have hm0 : m = 0 := by rw [← Hmb.out]; rfl
          have zA : decide ((0 : Int) < (m : Int)) = false := by rw [decide_eq_false_iff_not]; omega
          have zA' : decide (0 < m) = false := by rw [decide_eq_false_iff_not]; omega
          have Ex := Lib.hid (show ∀ y b', ([] : List Tr.E) = y :: b' → K ≤ y.k from fun y b' h => by cases h)
          have Hm0 := Lib.hid hm0
          clear hm0
          go_wp2_with fail
          go_quiet (fail)
          have HI2 := Lib.hid (HI.out.drewN nq)
          generalize wr.drewN nq = wv at HI2 ⊢
          clear HI x0 x5
          have x0 := HI2.out.blk.cell 0
          go_wp2_with fail
          go_quiet (fail)
          have HI3 := Lib.hid (HI2.out.drewN nq)
          generalize wv.drewN nq = wu at HI3 ⊢
          clear HI2 x0
          have HB3 := Lib.hid HI3.out.bel
          have x0 := HI3.out.blk.cell 0
          have x1 := HI3.out.blk.cell 1
          have x2 := HI3.out.blk.cell 2
          have x3 := HI3.out.blk.cell 3
          have x4 := HI3.out.blk.cell 4
          have x5 := HI3.out.blk.cell 5
          cases ct
          · go_wp2_with (at_builtin; refine wpList_append_sls _ rfl (.tmp 53) (.tmp 60) _ rfl Try.underlying158 hi0 hz0 hs0 hb0' rfl (by decide) rfl (pq_own (h := 0) Hq.out (HI3.out.row.below (below_alloc1 _ _))) (m := 1) (news := pcs [pcE ⟨K, (p1, p2, p3), pg⟩]) rfl rfl (by simp) (Nat.le_refl _) sl_14 (pcs_one _) (by unfold maxLen; omega) (by omega) (HB3.out.trans ((below_alloc1 _ _).mono HB3.out.size)).size ?_; intro v7 w7 h1 h2 h3; (obtain ⟨A7, c7, rfl⟩ := own_slice h1); (have N7 := Lib.hid (show PQ X w7 w.heap.size 0 ((o ++ a) ++ [⟨K, (p1, p2, p3), pg⟩]) (.slice A7 (q + 1) c7) (cs1 ++ [pcE ⟨K, (p1, p2, p3), pg⟩]) ∧ Below w.heap.size w w7 from pq_next (h := 0) (l := (show List Tr.E from o ++ a)) (l' := (show List Tr.E from (o ++ a) ++ [⟨K, (p1, p2, p3), pg⟩])) (p := ⟨K, (p1, p2, p3), pg⟩) (x := pcE ⟨K, (p1, p2, p3), pg⟩) rfl Hq.out HX.out (HI3.out.row.below (below_alloc1 _ _)) (HB3.out.trans ((below_alloc1 _ _).mono HB3.out.size)) (fun u _ => rfl) h1 h2 h3)); clear h1 h2 h3)
            go_roundw
            case rel => exact ⟨i + 1, by go_num, Hik.out, mg_out Hx.out rfl rfl Hm.out HI3.out Ex.out rfl HI3.out.plx N7.out.1 N7.out.2 Hmb.out⟩
            case measure => exact meas_up Hik.out
          · go_wp2_with fail
            go_roundw
            case rel => exact ⟨i + 1, by go_num, Hik.out, mg_out Hx.out rfl rfl Hm.out HI3.out Ex.out rfl HI3.out.plx (by rw [if_pos rfl, List.append_nil]; exact HI3.out.row) HB3.out Hmb.out⟩
            case measure => exact meas_up Hik.out
        | cons y b' =>
          obtain ⟨yk, ⟨y1', y2', y3'⟩, yg⟩ := y
          have hm0 : 0 < m := by rw [← Hmb.out, List.length_cons]; omega
          have zA : decide ((0 : Int) < (m : Int)) = true := by rw [decide_eq_true_eq]; omega
          have zA' : decide (0 < m) = true := by rw [decide_eq_true_eq]; omega
          have zB : (0 : Int) < (m : Int) := by omega
          obtain ⟨lb, lo', e1, hR⟩ := plx_head HI.out.plx
          subst e1
          have HR := Lib.hid hR
          have r0 : wr.cell? ⟨lb, lo', none⟩ = some (.int .i64 yk) := (hR wr (.of_below X HI.out.bel)) 0 _ rfl
          have sl := run_fromW (P := Try.prog) Try.underlying158 hi0 hs0 (some ⟨lb, lo', none⟩) m c1 1 hm0
          rw [show ((1 : Nat) : Int) = 1 from rfl] at sl
          clear hR
          by_cases hlt : yk < K
          · have t1 : decide (yk < K) = true := by rw [decide_eq_true_eq]; exact hlt
            have Hlt := Lib.hid hlt
            have Hm1 := Lib.hid (show b'.length = m - 1 by rw [← Hmb.out]; rfl)
            have Hm2 := Lib.hid hm0
            clear hlt
            go_wp2_with fail
            go_quiet (fail)
            have HI2 := Lib.hid (HI.out.drewN nq)
            have HB2 := Lib.hid HI2.out.bel
            generalize wr.drewN nq = wv at HI2 HB2 ⊢
            clear r0 x0 x5 HI
            have Rg := Lib.hid (fun (u : World) (hu : Below w.heap.size w u) => HR.out u (.of_below X hu))
            have HS := Lib.hid (fun (u : World) (hu : Below w.heap.size w u) => show u.cell? ⟨lb, lo', none⟩ = some (.int .i64 yk) ∧ u.cell? ⟨lb, lo' + 1, none⟩ = some (.int .i64 yk) ∧ u.cell? ⟨lb, lo' + 2, none⟩ = some (.int .i64 y1') ∧ u.cell? ⟨lb, lo' + 3, none⟩ = some (.int .i64 y2') ∧ u.cell? ⟨lb, lo' + 4, none⟩ = some (.int .i64 y3') ∧ u.cell? ⟨lb, lo' + 5, none⟩ = some (.int .i64 yg) ∧ u.cell? ⟨lb, lo' + 6, none⟩ = some (.int .i64 0) ∧ u.cell? ⟨lb, lo' + 7, none⟩ = some (.int .i64 0) ∧ u.cell? ⟨lb, lo' + 8, none⟩ = some (.int .i64 0) ∧ u.cell? ⟨lb, lo' + 9, none⟩ = some (.int .i64 0) ∧ u.cell? ⟨lb, lo' + 10, none⟩ = some (.int .i64 0) ∧ u.cell? ⟨lb, lo' + 11, none⟩ = some (.int .i64 0) ∧ u.cell? ⟨lb, lo' + 12, none⟩ = some (.bool false) ∧ u.cell? ⟨lb, lo' + 13, none⟩ = some (.slice none 0 0) from by
              have h := Rg.out u hu
              exact ⟨h 0 _ rfl, h 1 _ rfl, h 2 _ rfl, h 3 _ rfl, h 4 _ rfl, h 5 _ rfl, h 6 _ rfl, h 7 _ rfl, h 8 _ rfl, h 9 _ rfl, h 10 _ rfl, h 11 _ rfl, h 12 _ rfl, h 13 _ rfl⟩)
            have Oz := Lib.hid (show ∀ o', MgI X w K o r g #[.int .i64 K, .int .i64 p1, .int .i64 p2, .int .i64 p3, .int .i64 pg, .bool ct] a (⟨yk, (y1', y2', y3'), yg⟩ :: b') (.slice O1 q co1) cs1 (some ⟨lb, lo', none⟩) c1 wv ∧ Below wv.heap.size wv (wv.alloc o').drew ∧ Below w.heap.size w (wv.alloc o').drew from fun o' => by
              have h1 : Below wv.heap.size wv (wv.alloc o').drew := (below_alloc1 wv o').drew
              exact ⟨HI2.out, h1, HB2.out.trans (h1.mono HB2.out.size)⟩)
            go_wp2_with fail
            go_region_held_law (fun u => u.cell? ⟨lb, lo', none⟩ = some (.int .i64 yk) ∧ u.cell? ⟨lb, lo' + 1, none⟩ = some (.int .i64 yk) ∧ u.cell? ⟨lb, lo' + 2, none⟩ = some (.int .i64 y1') ∧ u.cell? ⟨lb, lo' + 3, none⟩ = some (.int .i64 y2') ∧ u.cell? ⟨lb, lo' + 4, none⟩ = some (.int .i64 y3') ∧ u.cell? ⟨lb, lo' + 5, none⟩ = some (.int .i64 yg) ∧ u.cell? ⟨lb, lo' + 6, none⟩ = some (.int .i64 0) ∧ u.cell? ⟨lb, lo' + 7, none⟩ = some (.int .i64 0) ∧ u.cell? ⟨lb, lo' + 8, none⟩ = some (.int .i64 0) ∧ u.cell? ⟨lb, lo' + 9, none⟩ = some (.int .i64 0) ∧ u.cell? ⟨lb, lo' + 10, none⟩ = some (.int .i64 0) ∧ u.cell? ⟨lb, lo' + 11, none⟩ = some (.int .i64 0) ∧ u.cell? ⟨lb, lo' + 12, none⟩ = some (.bool false) ∧ u.cell? ⟨lb, lo' + 13, none⟩ = some (.slice none 0 0)) (first | exact HS.out _ HB2.out | exact HS.out _ N7.out.bel | exact HS.out _ (Oz.out _).2.2 | exact HS.out _ HB2.out.drew) (first
              | (refine step_append3 (base := w.heap.size) _ rfl (.tmp 27) (.tmp 31) _ rfl Try.underlying158 hi0 hz0 hs0 hb0' rfl (by decide) rfl (pq_own (h := 0) Hq.out (HI2.out.row.below (Oz.out _).2.1)) (m := 1) (news := pcs [pcE ⟨yk, (y1', y2', y3'), yg⟩]) rfl rfl (by simp) (Nat.le_refl _) sl_14d (pcs_one _) (by unfold maxLen; omega) (by omega) (Oz.out _).2.2.size ?_; intro v7 w7 h1 h2 h3; (obtain ⟨A7, c7, rfl⟩ := own_slice h1); (have N7 := Lib.hid (show MgI X w K o r g #[.int .i64 K, .int .i64 p1, .int .i64 p2, .int .i64 p3, .int .i64 pg, .bool ct] (a ++ [⟨yk, (y1', y2', y3'), yg⟩]) b' (.slice A7 (q + 1) c7) (cs1 ++ [pcE ⟨yk, (y1', y2', y3'), yg⟩]) (cutW (some ⟨lb, lo', none⟩) c1 1 14) (c1 - 1) w7 from HI2.out.push HX.out Hlt.out Hq.out (Oz.out _).2.1 h1 h2 h3)); clear h1 h2 h3))
            all_goals
              (try simp only [List.getElem_toArray, List.getElem_cons_succ, List.getElem_cons_zero])
              go_wp2_with fail
              (try simp only [List.setIfInBounds_toArray, List.set_cons_zero, List.set_cons_succ])
              go_roundw
              case rel => exact ⟨_, _, _, _, _, by rw [Hm1.out], N7.out⟩
              case measure => have := Hm2.out; simp only [lenM]; omega
          · have t1 : decide (yk < K) = false := by rw [decide_eq_false_iff_not]; exact hlt
            have Ex := Lib.hid (show ∀ y b'', (⟨yk, (y1', y2', y3'), yg⟩ : Tr.E) :: b' = y :: b'' → K ≤ y.k from fun y b'' h => by injection h with h; rw [← h]; exact Int.not_lt.1 hlt)
            by_cases heq : yk = K
            · have t2 : (yk == K) = true := by rw [beq_iff_eq]; exact heq
              have Hd := Lib.hid (show Tr.dropEq ((⟨yk, (y1', y2', y3'), yg⟩ : Tr.E) :: b') K = b' from if_pos heq)
              have Hm1 := Lib.hid (show b'.length = m - 1 by rw [← Hmb.out]; rfl)
              clear hlt heq
              go_wp2_with fail
              go_quiet (fail)
              have HI2 := Lib.hid (HI.out.drewN nq)
              generalize wr.drewN nq = wv at HI2 ⊢
              clear HI x0 x5
              have x0 := HI2.out.blk.cell 0
              clear r0
              have r0 : wv.cell? ⟨lb, lo', none⟩ = some (.int .i64 yk) := (HR.out wv (.of_below X HI2.out.bel)) 0 _ rfl
              go_wp2_with fail
              go_quiet (fail)
              have HI3 := Lib.hid (HI2.out.drewN nq)
              generalize wv.drewN nq = wu at HI3 ⊢
              clear HI2 x0
              clear r0
              have HB3 := Lib.hid HI3.out.bel
              have x0 := HI3.out.blk.cell 0
              have x1 := HI3.out.blk.cell 1
              have x2 := HI3.out.blk.cell 2
              have x3 := HI3.out.blk.cell 3
              have x4 := HI3.out.blk.cell 4
              have x5 := HI3.out.blk.cell 5
              cases ct
              · go_wp2_with (at_builtin; refine wpList_append_sls _ rfl (.tmp 53) (.tmp 60) _ rfl Try.underlying158 hi0 hz0 hs0 hb0' rfl (by decide) rfl (pq_own (h := 0) Hq.out (HI3.out.row.below (below_alloc1 _ _))) (m := 1) (news := pcs [pcE ⟨K, (p1, p2, p3), pg⟩]) rfl rfl (by simp) (Nat.le_refl _) sl_14 (pcs_one _) (by unfold maxLen; omega) (by omega) (HB3.out.trans ((below_alloc1 _ _).mono HB3.out.size)).size ?_; intro v7 w7 h1 h2 h3; (obtain ⟨A7, c7, rfl⟩ := own_slice h1); (have N7 := Lib.hid (show PQ X w7 w.heap.size 0 ((o ++ a) ++ [⟨K, (p1, p2, p3), pg⟩]) (.slice A7 (q + 1) c7) (cs1 ++ [pcE ⟨K, (p1, p2, p3), pg⟩]) ∧ Below w.heap.size w w7 from pq_next (h := 0) (l := (show List Tr.E from o ++ a)) (l' := (show List Tr.E from (o ++ a) ++ [⟨K, (p1, p2, p3), pg⟩])) (p := ⟨K, (p1, p2, p3), pg⟩) (x := pcE ⟨K, (p1, p2, p3), pg⟩) rfl Hq.out HX.out (HI3.out.row.below (below_alloc1 _ _)) (HB3.out.trans ((below_alloc1 _ _).mono HB3.out.size)) (fun u _ => rfl) h1 h2 h3)); clear h1 h2 h3)
                go_roundw
                case rel => exact ⟨i + 1, by go_num, Hik.out, mg_out Hx.out rfl rfl Hm.out HI3.out Ex.out Hd.out (plx_tail HI3.out.plx) N7.out.1 N7.out.2 Hm1.out⟩
                case measure => exact meas_up Hik.out
              · go_wp2_with fail
                go_roundw
                case rel => exact ⟨i + 1, by go_num, Hik.out, mg_out Hx.out rfl rfl Hm.out HI3.out Ex.out Hd.out (plx_tail HI3.out.plx) (by rw [if_pos rfl, List.append_nil]; exact HI3.out.row) HB3.out Hm1.out⟩
                case measure => exact meas_up Hik.out
            · have t2 : (yk == K) = false := by rw [beq_eq_false_iff_ne]; exact heq
              have Hd := Lib.hid (show Tr.dropEq ((⟨yk, (y1', y2', y3'), yg⟩ : Tr.E) :: b') K = (⟨yk, (y1', y2', y3'), yg⟩ : Tr.E) :: b' from if_neg heq)
              clear hlt heq
              go_wp2_with fail
              go_quiet (fail)
              have HI2 := Lib.hid (HI.out.drewN nq)
              generalize wr.drewN nq = wv at HI2 ⊢
              clear HI x0 x5
              have x0 := HI2.out.blk.cell 0
              clear r0
              have r0 : wv.cell? ⟨lb, lo', none⟩ = some (.int .i64 yk) := (HR.out wv (.of_below X HI2.out.bel)) 0 _ rfl
              go_wp2_with fail
              go_quiet (fail)
              have HI3 := Lib.hid (HI2.out.drewN nq)
              generalize wv.drewN nq = wu at HI3 ⊢
              clear HI2 x0
              clear r0
              have HB3 := Lib.hid HI3.out.bel
              have x0 := HI3.out.blk.cell 0
              have x1 := HI3.out.blk.cell 1
              have x2 := HI3.out.blk.cell 2
              have x3 := HI3.out.blk.cell 3
              have x4 := HI3.out.blk.cell 4
              have x5 := HI3.out.blk.cell 5
              cases ct
              · go_wp2_with (at_builtin; refine wpList_append_sls _ rfl (.tmp 53) (.tmp 60) _ rfl Try.underlying158 hi0 hz0 hs0 hb0' rfl (by decide) rfl (pq_own (h := 0) Hq.out (HI3.out.row.below (below_alloc1 _ _))) (m := 1) (news := pcs [pcE ⟨K, (p1, p2, p3), pg⟩]) rfl rfl (by simp) (Nat.le_refl _) sl_14 (pcs_one _) (by unfold maxLen; omega) (by omega) (HB3.out.trans ((below_alloc1 _ _).mono HB3.out.size)).size ?_; intro v7 w7 h1 h2 h3; (obtain ⟨A7, c7, rfl⟩ := own_slice h1); (have N7 := Lib.hid (show PQ X w7 w.heap.size 0 ((o ++ a) ++ [⟨K, (p1, p2, p3), pg⟩]) (.slice A7 (q + 1) c7) (cs1 ++ [pcE ⟨K, (p1, p2, p3), pg⟩]) ∧ Below w.heap.size w w7 from pq_next (h := 0) (l := (show List Tr.E from o ++ a)) (l' := (show List Tr.E from (o ++ a) ++ [⟨K, (p1, p2, p3), pg⟩])) (p := ⟨K, (p1, p2, p3), pg⟩) (x := pcE ⟨K, (p1, p2, p3), pg⟩) rfl Hq.out HX.out (HI3.out.row.below (below_alloc1 _ _)) (HB3.out.trans ((below_alloc1 _ _).mono HB3.out.size)) (fun u _ => rfl) h1 h2 h3)); clear h1 h2 h3)
                go_roundw
                case rel => exact ⟨i + 1, by go_num, Hik.out, mg_out Hx.out rfl rfl Hm.out HI3.out Ex.out Hd.out HI3.out.plx N7.out.1 N7.out.2 Hmb.out⟩
                case measure => exact meas_up Hik.out
              · go_wp2_with fail
                go_roundw
                case rel => exact ⟨i + 1, by go_num, Hik.out, mg_out Hx.out rfl rfl Hm.out HI3.out Ex.out Hd.out HI3.out.plx (by rw [if_pos rfl, List.append_nil]; exact HI3.out.row) HB3.out Hmb.out⟩
                case measure => exact meas_up Hik.out
    · obtain rfl : i = n := by omega
      have y0 : decide ((i : Int) < (i : Int)) = false := by rw [decide_eq_false_iff_not]; omega
      have hmg : (o, r) = Tr.mgO eds [] L := by rw [← Hm.out, List.take_of_length_le (by rw [Hn.out]; exact Nat.le_refl _)]
      have hfin : o ++ r = Tr.merged eds L := by
        have h1 := Tr.mgO_is eds [] L
        rw [← hmg] at h1
        exact h1
      have Hfin := Lib.hid hfin
      have Hfl := Lib.hid (show q0 + m0 = (Tr.merged eds L).length by rw [← hfin, List.length_append, Hq0.out, Hm0.out])
      obtain ⟨cs2, hU⟩ := HP.out.uni
      have U2 := Lib.hid (show Fast X w fun u => SlC u u.heap.size A0 c0 m0 (pcs cs2) ∧ PRs u 0 r cs2 from fun u k => by
        have h := hU u k
        rw [show @List.length (Tr.Pt 0) r = m0 from Hm0.out] at h
        exact h)
      have hcl : cs2.length = m0 := U2.out.now.2.1.trans Hm0.out
      have hb3 := Hb2.out
      rw [Hq0.out, Hm0.out] at hb3
      clear hik hi hB hmg hfin hU
      go_wp2_with (at_builtin; refine wpList_append_sls _ rfl (.tmp 63) (.tmp 64) _ rfl Try.underlying158 hi0 hz0 hs0 hb0' rfl (by decide) rfl (pq_own (h := 0) Hq0.out HQ.out) (m := m0) (news := pcs cs2) rfl (by rw [pcs_len, hcl]) U2.out.now.1.nil U2.out.now.1.le ((U2.out.new (.of_below X HB.out) (G := fun _ => False) fun _ h => h.elim).now.1.sl) (pcs_one _) (by unfold maxLen; omega) (by omega) HB.out.size ?_; intro v7 w7 h1 h2 h3; (obtain ⟨A7, c7, rfl⟩ := own_slice h1); (have N7 := Lib.hid (show PQ X w7 w.heap.size 0 (Tr.merged eds L) (.slice A7 (q0 + m0) c7) (cs ++ cs2) ∧ Below w.heap.size w w7 from pq_nexts (h := 0) (l := o) (l' := Tr.merged eds L) (ps := r) Hfin.out.symm Hq0.out Hm0.out (fun b hb => Nat.lt_of_lt_of_le (HX.out b hb) HB.out.size) HQ.out HB.out HB.out.size ((U2.out.new (.of_below X HB.out) fun b hb => (HQ.out.own.lt b hb).1).mono fun u h => h.2) h1 h2 h3)); clear h1 h2 h3)
      go_ret
      exact ⟨N7.out.2, A7, c7, by rw [← Hfl.out]; rfl, N7.out.1.plx⟩
end Go.Proofs.Ytlcchefiicalpaa
