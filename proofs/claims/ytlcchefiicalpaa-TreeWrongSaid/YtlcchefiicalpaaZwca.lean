/- The program's fit. -/
import Derived.Test.YtlcchefiicalpaaZwbh
namespace Go.Proofs.Ytlcchefiicalpaa
open Go.RowKit
/-- A guarded load of a whole value. -/
theorem wpList_load_midg {P : Program} {ops : Array Oper} {rest : List Oper} {op : Oper} {a : Act} {w : World} {Q : Exit → Act → World → Prop} (hgd : Region.wanted op (yielded ops a.tmps) = true) (ty : TypeId) (x : Operand) (ho : op.op = .load ty x)
    (b o : Nat) (hx : a.eval x = .pointer (some ⟨b, o, none⟩)) (cs : List Value) (d : TypeDesc) (hc : w.rangeAt b o cs)
    (hu : P.underlying ty = some d) (hd : d.isRow = true) (hi : (P.info? ty).map (·.size) = some cs.length)
    (h : wpList P ops Q rest (a.put op.dst (.agg cs.toArray)) w) : wpList P ops Q (op :: rest) a w :=
  BigFrame.wpList_want hgd fun _ hK => wp_load_mid ty x ho b o hx cs d hc hu hd hi (hK _ _ h)
theorem small_pc {u : World} {h : Nat} {p : Tr.Pt (h + 1)} {x : Tr.PC} (hx : PR u (h + 1) p x) : (x.fr && decide (x.n < 4)) = Tr.small p := by
  cases p with
  | inl b => obtain rfl : x = ⟨b.f, Tr.z, b, false, none, 0, 0⟩ := hx; rfl
  | inr l => rw [hx.list.1]; exact Bool.true_and _
theorem emp_pc {u : World} {h : Nat} {p : Tr.Pt (h + 1)} {x : Tr.PC} (hx : PR u (h + 1) p x) : (x.fr && decide (x.n = 0)) = Tr.emp p := by
  cases p with
  | inl b => obtain rfl : x = ⟨b.f, Tr.z, b, false, none, 0, 0⟩ := hx; rfl
  | inr l =>
    rw [hx.list.1]
    show (true && decide (l.length = 0)) = l.isEmpty
    cases l <;> rfl
section
variable {σ : Type} (D : StoI σ)
/-- Where the first loop of fit stands. -/
structure FtI (w : World) (X G : Nat → Prop) (h : Nat) (l : List (Tr.Pt (h + 1))) (st : σ) (i : Nat) (s : List (Tr.Pt (h + 1))) (v : Value) (cs : List Tr.PC) (wr : World) (Xr : Nat → Prop) (sr : σ) : Prop where
  rep : D.Rep wr Xr sr
  stp : Stp w X wr Xr
  row : PQ (fun b => Xr b ∨ G b) wr w.heap.size (h + 1) s.reverse v cs
  eq : Tr.fitA (Tr.join D.S h) l st [] = Tr.fitA (Tr.join D.S h) (l.drop i) sr s
  wf : Tr.WfA s
  wt : Tr.wts s + Tr.wts (l.drop i) ≤ 1000000
  len : s.length ≤ i
theorem get_app {α : Type} {l m : List α} {i : Nat} {x : α} (h : l[i]? = some x) : (l ++ m)[i]? = some x := by rw [List.getElem?_append_left (List.getElem?_eq_some_iff.1 h).1]; exact h
theorem own_pcs1 {w : World} {B n : Nat} {v : Value} {cs ds : List Tr.PC} (h : w.ownsRow B 160 14 v n (pcs cs ++ pcs ds)) : w.ownsRow B 160 14 v n (pcs (cs ++ ds)) := by rw [pcs_app]; exact h
theorem drop_next {α : Type} {l : List α} {i : Nat} {p : α} (hp : l[i]? = some p) : l.drop i = p :: l.drop (i + 1) := by
  have hi : i < l.length := (List.getElem?_eq_some_iff.1 hp).1
  rw [List.drop_eq_getElem_cons hi]
  have := (List.getElem?_eq_some_iff.1 hp).2
  rw [this]
theorem ft_skip {w : World} {X G : Nat → Prop} {h : Nat} {l : List (Tr.Pt (h + 1))} {st : σ} {i : Nat} {s : List (Tr.Pt (h + 1))} {v : Value} {cs : List Tr.PC} {wr u : World} {Xr : Nat → Prop} {sr : σ} {p : Tr.Pt (h + 1)} (hI : FtI D w X G h l st i s v cs wr Xr sr) (hd : l.drop i = p :: l.drop (i + 1)) (he : Tr.emp p = true) (hu : Below wr.heap.size wr u) : FtI D w X G h l st (i + 1) s v cs u Xr sr :=
  ⟨D.below hI.rep hu, hI.stp.below hu, hI.row.below hu, by
    rw [hI.eq, hd]
    conv => lhs; unfold Tr.fitA
    rw [if_pos he], hI.wf, by have := hI.wt; rw [hd, Tr.wts_cons] at this; omega, Nat.le_succ_of_le hI.len⟩
/-- What is known behind the append of a part. -/
structure FtP (w : World) (X G : Nat → Prop) (h : Nat) (s : List (Tr.Pt (h + 1))) (v : Value) (cs : List Tr.PC) (wr : World) (Xr : Nat → Prop) (sr : σ) : Prop where
  rep : D.Rep wr Xr sr
  stp : Stp w X wr Xr
  row : PQ (fun b => Xr b ∨ G b) wr w.heap.size (h + 1) s.reverse v cs
theorem ft_push {w : World} {X G : Nat → Prop} {h i m : Nat} {l s : List (Tr.Pt (h + 1))} {st : σ} {v : Value} {cs : List Tr.PC} {wr W6 w7 : World} {Xr : Nat → Prop} {sr : σ} {p : Tr.Pt (h + 1)} {px : Tr.PC} {A7 : Option Addr} {c7 M : Nat} (hI : FtI D w X G h l st i s v cs wr Xr sr) (hG : ∀ b, G b → b < w.heap.size) (hx : Fast (fun b => X b ∨ G b) w fun u => PR u (h + 1) p px) (hm : s.length = m) (hM : m + 1 = M) (hb : Below wr.heap.size wr W6)
    (o : w7.ownsRow w.heap.size 160 14 (.slice A7 M c7) M (pcs cs ++ pcs [px])) (gr : W6.grownBy w7 v.ownBlock) (hv : (Value.slice A7 M c7).ownBlock = v.ownBlock ∨ (Value.slice A7 M c7).ownBlock = some W6.heap.size) : FtP D w X G h (p :: s) (.slice A7 M c7) (cs ++ [px]) w7 Xr sr := by
  subst hm
  subst hM
  have hS6 : Stp w X W6 Xr := hI.stp.below hb
  have hR6 := D.below hI.rep hb
  have hO := hI.row.below hb
  have c7' : Chg (fun b => v.ownBlock = some b) W6 w7 := ⟨gr.os, gr.tape, gr.output, gr.size, fun i hi hn => gr.block i hi fun e => hn e.symm⟩
  obtain ⟨r1, r2⟩ := D.end_ hR6 hS6 c7' fun b hb' => ⟨(hO.own.lt b hb').1, fun hx' => (hO.far b hb').1 (.inl hx')⟩
  refine ⟨r1, r2, ?_⟩
  rw [List.reverse_cons]
  refine hO.push (m := [p]) (ds := [px]) (fun b hb' => hb'.elim (fun hb' => D.lt hR6 hb') fun hb' => Nat.lt_of_lt_of_le (hG b hb') hS6.chg.size) ((hx.new (hS6.with G) fun b hb' => (hO.own.lt b hb').1).mono fun u hu => .one hu) ?_ gr hv
  rw [List.length_reverse]
  exact o
theorem FtP.below {w : World} {X G : Nat → Prop} {h : Nat} {s : List (Tr.Pt (h + 1))} {v : Value} {cs : List Tr.PC} {wr u : World} {Xr : Nat → Prop} {sr : σ} (hP : FtP D w X G h s v cs wr Xr sr) (hu : Below wr.heap.size wr u) : FtP D w X G h s v cs u Xr sr := ⟨D.below hP.rep hu, hP.stp.below hu, hP.row.below hu⟩
theorem ft_last {X : Nat → Prop} {w : World} {B h q : Nat} {s' : List (Tr.Pt (h + 1))} {y : Tr.Pt (h + 1)} {v : Value} {cs : List Tr.PC} (hp : PQ X w B (h + 1) (y :: s').reverse v cs) (hq : s'.length = q) : ∃ qy, cs[q]? = some qy ∧ (qy.fr && decide (qy.n < 4)) = Tr.small y := by
  have hl := hp.len
  rw [List.length_reverse, List.length_cons, hq] at hl
  refine ⟨cs[q]'(by omega), List.getElem?_eq_getElem _, small_pc (hp.are.now.2 q y _ ?_ (List.getElem?_eq_getElem _))⟩
  rw [List.reverse_cons, List.getElem?_append_right (by rw [List.length_reverse]; omega), List.length_reverse, hq, Nat.sub_self]
  rfl
theorem ft_put {w : World} {X G : Nat → Prop} {h i : Nat} {l s : List (Tr.Pt (h + 1))} {st : σ} {v v' : Value} {cs cs' : List Tr.PC} {wr u : World} {Xr : Nat → Prop} {sr : σ} {p : Tr.Pt (h + 1)} (hI : FtI D w X G h l st i s v cs wr Xr sr) (hd : l.drop i = p :: l.drop (i + 1)) (he : ¬ Tr.emp p = true) (hp : Tr.Wf (h + 1) p) (hs : ∀ y s', s = y :: s' → Tr.small y = false) (hP : FtP D w X G h (p :: s) v' cs' u Xr sr) : FtI D w X G h l st (i + 1) (p :: s) v' cs' u Xr sr :=
  ⟨hP.rep, hP.stp, hP.row, by
    rw [hI.eq, hd]
    conv => lhs; unfold Tr.fitA
    rw [if_neg he]
    cases s with
    | nil => rfl
    | cons y s' =>
      dsimp only
      rw [if_neg (by rw [hs y s' rfl]; decide)], fun q hq => (List.mem_cons.1 hq).elim (fun e => e ▸ hp) (hI.wf q), by have := hI.wt; rw [hd, Tr.wts_cons] at this; rw [Tr.wts_cons]; omega, by rw [List.length_cons]; have := hI.len; omega⟩
theorem ft_join {w : World} {X G : Nat → Prop} {h q : Nat} {s' : List (Tr.Pt (h + 1))} {y p : Tr.Pt (h + 1)} {v : Value} {cs : List Tr.PC} {w8 : World} {Xr : Nat → Prop} {sr : σ} (hP : FtP D w X G h (p :: y :: s') v cs w8 Xr sr) (hG : ∀ b, G b → b < w.heap.size) (hq : s'.length = q) (hq1 : q ≤ 1000000) (wy : Tr.Wf (h + 1) y) (wp : Tr.Wf (h + 1) p) (hwt : Tr.wt (h + 1) y + Tr.wt (h + 1) p ≤ 1000000) (hh : h ≤ 1000000) (HF : ∀ k, h = k + 1 → FitC D k) :
    Calls Try.prog 112 #[D.val, v, .int .i64 (h : Int)] w8 fun e w' => ∃ X', D.Rep w' X' (Tr.join D.S h sr y p).1 ∧ Stp w X w' X' ∧ (match (Tr.join D.S h sr y p).2 with
      | .error er => e = .returned (.tuple #[.slice none 0 0, .int .i64 er])
      | .ok z => ∃ A c cs', e = .returned (.tuple #[.slice A (q + 1) c, .int .i64 0]) ∧ PQ (fun b => X' b ∨ G b) w' w.heap.size (h + 1) (z :: s').reverse (.slice A (q + 1) c) cs') := by
  have hrow : PQ (fun b => Xr b ∨ G b) w8 w.heap.size (h + 1) (s'.reverse ++ [y, p]) v cs := by
    have := hP.row
    rw [List.reverse_cons, List.reverse_cons, List.append_assoc] at this
    exact this
  refine (joinlast_any D hP.rep (fun b hb => Nat.lt_of_lt_of_le (hG b hb) hP.stp.chg.size) hrow hP.stp.chg.size wy wp hwt (by rw [List.length_reverse, hq]; exact hq1) hh HF).mono ?_
  rintro e w' ⟨X', r1, r2, r3, r4⟩
  have hstp : Stp w X w' X' := ⟨⟨r2.os.trans hP.stp.chg.os, r2.tape.trans hP.stp.chg.tape, r2.output.trans hP.stp.chg.output, Nat.le_trans hP.stp.chg.size r2.size, fun i hi hn => (r2.block i (Nat.lt_of_lt_of_le hi hP.stp.chg.size) fun e => e.elim (fun e => (hP.stp.new i e).elim hn fun e => by omega) fun e => by have := (hrow.own.lt i e).1; omega).trans (hP.stp.chg.block i hi hn)⟩, fun b hb => (r3 b hb).elim (hP.stp.new b) fun hb => .inr (Nat.le_trans hP.stp.chg.size hb)⟩
  refine ⟨X', r1, hstp, ?_⟩
  cases hj : (Tr.join D.S h sr y p).2 with
  | error er => rw [hj] at r4; exact r4.2
  | ok z =>
    rw [hj] at r4
    obtain ⟨A, c, cs', e1, e2, -⟩ := r4
    rw [List.length_reverse, hq] at e1 e2
    exact ⟨A, c, cs', e1, by rw [List.reverse_cons]; exact e2⟩
theorem ft_eqj {w : World} {X G : Nat → Prop} {h i : Nat} {l s' : List (Tr.Pt (h + 1))} {st : σ} {v : Value} {cs : List Tr.PC} {wr : World} {Xr : Nat → Prop} {sr : σ} {y p : Tr.Pt (h + 1)} (hI : FtI D w X G h l st i (y :: s') v cs wr Xr sr) (hd : l.drop i = p :: l.drop (i + 1)) (he : ¬ Tr.emp p = true) (hs : Tr.small y = true) : Tr.fitA (Tr.join D.S h) l st [] = (match Tr.join D.S h sr y p with
    | (st', .error e) => (st', .error e)
    | (st', .ok z) => Tr.fitA (Tr.join D.S h) (l.drop (i + 1)) st' (z :: s')) := by
  rw [hI.eq, hd]
  conv => lhs; unfold Tr.fitA
  rw [if_neg he]
  dsimp only
  rw [if_pos hs]
  rfl
def lenV : Value → Nat
  | .slice _ n _ => n
  | _ => 0
def fin {h : Nat} (r : Tr.Res σ (List (Tr.Pt (h + 1)))) : Tr.Res σ (List (Tr.Pt (h + 1))) := match r with
  | (st, .error e) => (st, .error e)
  | (st, .ok t) => (st, .ok (Tr.split t.reverse))
/-- Where the second loop of fit stands. -/
structure FtB (w : World) (X G : Nat → Prop) (h : Nat) (l : List (Tr.Pt (h + 1))) (st : σ) (k : Nat) (s : List (Tr.Pt (h + 1))) (v : Value) (cs : List Tr.PC) (wr : World) (Xr : Nat → Prop) (sr : σ) : Prop where
  at_ : FtP D w X G h s v cs wr Xr sr
  eq : Tr.fit D.S h st l = fin (Tr.fitB (Tr.join D.S h) k sr s)
  le : s.length ≤ k
  wf : Tr.WfA s
  wt : Tr.wts s ≤ 1000000
  len : s.length ≤ 1000000
theorem ft_end {w : World} {X G : Nat → Prop} {h i : Nat} {l s : List (Tr.Pt (h + 1))} {st : σ} {v : Value} {cs : List Tr.PC} {wr : World} {Xr : Nat → Prop} {sr : σ} (hI : FtI D w X G h l st i s v cs wr Xr sr) (hi : i = l.length) (few : i ≤ 1000000) : FtB D w X G h l st s.length s v cs wr Xr sr := by
  have e := hI.eq
  rw [hi, List.drop_length] at e
  refine ⟨⟨hI.rep, hI.stp, hI.row⟩, ?_, Nat.le_refl _, hI.wf, by have := hI.wt; omega, Nat.le_trans hI.len few⟩
  unfold Tr.fit Tr.fitJ
  rw [e]
  unfold Tr.fitA fin
  rfl
/-- The second loop is over. -/
theorem ft_over {w : World} {X G : Nat → Prop} {h k : Nat} {l s : List (Tr.Pt (h + 1))} {st : σ} {v : Value} {cs : List Tr.PC} {wr : World} {Xr : Nat → Prop} {sr : σ} (hB : FtB D w X G h l st k s v cs wr Xr sr) (ho : s.length ≤ 1 ∨ ∃ x r, s = x :: r ∧ Tr.small x = false) : Tr.fit D.S h st l = (sr, .ok (Tr.split s.reverse)) := by
  have : Tr.fitB (Tr.join D.S h) k sr s = (sr, .ok s) := by
    cases k with
    | zero => rfl
    | succ k =>
      unfold Tr.fitB
      cases s with
      | nil => rfl
      | cons x r =>
        cases r with
        | nil => rfl
        | cons y r =>
          rcases ho with ho | ⟨x', r', e, hx⟩
          · simp at ho
          · injection e with e1 e2
            subst e1
            dsimp only
            rw [if_neg (by rw [hx]; decide)]
  rw [hB.eq, this]
  rfl
theorem ft_more {w : World} {X G : Nat → Prop} {h k : Nat} {l s' : List (Tr.Pt (h + 1))} {st : σ} {v : Value} {cs : List Tr.PC} {wr : World} {Xr : Nat → Prop} {sr : σ} {x y : Tr.Pt (h + 1)} (hB : FtB D w X G h l st k (x :: y :: s') v cs wr Xr sr) (hx : Tr.small x = true) : ∃ k', k = k' + 1 ∧ Tr.fit D.S h st l = (match Tr.join D.S h sr y x with
    | (st', .error e) => (st', .error e)
    | (st', .ok z) => fin (Tr.fitB (Tr.join D.S h) k' st' (z :: s'))) := by
  have hk := hB.le
  rw [List.length_cons] at hk
  refine ⟨k - 1, by omega, ?_⟩
  rw [hB.eq, show k = (k - 1) + 1 by omega]
  conv => lhs; unfold Tr.fitB
  dsimp only
  rw [if_pos hx]
  rcases hj : Tr.join D.S h sr y x with ⟨sj, er | z⟩
  · rfl
  · rfl
/-- Split may be called. -/
theorem ft_split {w : World} {X G : Nat → Prop} {h k : Nat} {l s : List (Tr.Pt (h + 1))} {st : σ} {A : Option Addr} {n c : Nat} {cs : List Tr.PC} {wr : World} {Xr : Nat → Prop} {sr : σ} (hB : FtB D w X G h l st k s (.slice A n c) cs wr Xr sr) (hG : ∀ b, G b → b < w.heap.size) (hn : s.length = n) (ho : s.length ≤ 1 ∨ ∃ x r, s = x :: r ∧ Tr.small x = false) {u : World} (hu : Below wr.heap.size wr u) :
    Calls Try.prog 113 #[.slice A n c] u fun e w' => ∃ A' n' c', e = .returned (.slice A' n' c') ∧ PsR D w X G (h + 1) (Tr.fit D.S h st l).1 (Tr.fit D.S h st l).2 (.returned (.tuple #[.slice A' n' c', .int .i64 0])) w' := by
  have hP := hB.at_.below D hu
  have hwr : Tr.WfA s.reverse := fun q hq => hB.wf q (List.mem_reverse.1 hq)
  have hwt : Tr.wts s.reverse ≤ 1000000 := by rw [Tr.wts_rev]; exact hB.wt
  have hlen : s.reverse.length = n := (List.length_reverse ..).trans hn
  have mem_le : ∀ {l : List (Tr.Pt (h + 1))} {q : Tr.Pt (h + 1)}, q ∈ l → Tr.wt (h + 1) q ≤ Tr.wts l := fun {l q} hq => by
    induction l with
    | nil => cases hq
    | cons x l ih =>
      rw [Tr.wts_cons]
      rcases List.mem_cons.1 hq with rfl | hq
      · omega
      · have := ih hq; omega
  have := split_any (w := u) (X := fun b => Xr b ∨ G b) (fun b hb => hb.elim (fun hb => D.lt hP.rep hb) fun hb => Nat.lt_of_lt_of_le (hG b hb) hP.stp.chg.size) hP.row.plx (by rw [hlen, ← hn]; exact hB.len) (fun b hb => by
      have h1 : Tr.Wfs b := hwr _ hb
      have h2 := h1.len
      have h3 := mem_le hb
      rw [Tr.wt_frs] at h3
      omega) (fun i hi => by
      have h0 : Tr.WfA (s.reverse.take i) := fun q hq => hwr q (List.mem_of_mem_take hq)
      obtain ⟨h1, h2⟩ := Tr.split_wf h0
      have h3 := h1.len
      have h4 : Tr.wts (s.reverse.take i) ≤ Tr.wts s.reverse := by
        conv => rhs; rw [← List.take_append_drop i s.reverse]
        rw [Tr.wts_app]
        omega
      omega)
  rw [hlen] at this
  refine this.mono ?_
  rintro e w' ⟨hb, A', c', rfl, hp⟩
  refine ⟨A', _, c', rfl, ?_⟩
  rw [ft_over D hB ho]
  exact ⟨Xr, D.below hP.rep hb, hP.stp.below hb, A', _, c', 0, rfl, rfl, rfl, hp⟩
set_option maxRecDepth 8000 in
set_option maxHeartbeats 16000000 in
theorem fit_any (h : Nat) (hh : h ≤ 1000000) (HF : ∀ k, h = k + 1 → FitC D k) : FitC D h := by
  intro w X G st l A c hr hG hl hw ht few
  obtain ⟨i0, hi0, hz0, hs0, hb0'⟩ := part_parts
  obtain ⟨d0, hd0, hd1⟩ := part_row
  obtain ⟨cs0, hU⟩ := hl.uni
  obtain ⟨n, hn⟩ : ∃ n, l.length = n := ⟨_, rfl⟩
  have hlen := hU.now.2.1
  have Hn := Lib.hid hn
  have HU := Lib.hid hU
  have HG := Lib.hid hG
  have Hlen := Lib.hid hlen
  have HI0 := Lib.hid (show FtI D w X G h l st 0 [] (.slice none 0 0) [] w X st from ⟨hr, .refl _ _, .nil _ _ _ _, by rw [List.drop_zero], fun q hq => (by cases hq), (by rw [List.drop_zero, Tr.wts_nil]; omega), Nat.le_refl _⟩)
  have Hl := Lib.hid hw
  rw [hn] at few ⊢
  clear hn hl hU hlen hG hr hw ht
  go_enter Try.func99, Try.ntmps99
  go_wp2_with fail
  go_loopw [16, 8] (fun v16 v8 wr => ∃ (i : Nat) (s : List (Tr.Pt (h + 1))) (cs : List Tr.PC) (Xr : Nat → Prop) (sr : σ), v16 = .int .i64 (i : Int) ∧ i ≤ n ∧ FtI D w X G h l st i s v8 cs wr Xr sr) (fun v16 _ _ => n - (intOf v16).toNat)
  case atStart => exact ⟨0, [], [], X, st, rfl, Nat.zero_le _, HI0.out⟩
  case round =>
    obtain ⟨i, s, cs, Xr, sr, rfl, hi, hI⟩ := hrel
    have HI := Lib.hid hI
    obtain ⟨m, hm⟩ : ∃ m, s.length = m := ⟨_, rfl⟩
    obtain ⟨O, co, rfl⟩ : ∃ A' c', u8 = .slice A' m c' := by
      obtain ⟨A', c', e⟩ := hI.row.form
      exact ⟨A', c', by rw [e, List.length_reverse, hm]⟩
    have Hm := Lib.hid hm
    have hmi : m ≤ i := by rw [← hm]; exact hI.len
    by_cases hik : i < n
    · have y0 : decide ((i : Int) < (n : Int)) = true := by rw [decide_eq_true_eq]; omega
      have y1 : (i : Int) < (n : Int) := by omega
      have Wi : wrap64 ((i : Int) + 1) = (i : Int) + 1 := by simp only [wrap64]; omega
      obtain ⟨p, px, hp, hx⟩ := get_of_len Hlen.out (i := i) (by rw [Hn.out]; exact hik)
      have FP := Lib.hid (show Fast (fun b => X b ∨ G b) w fun u => PR u (h + 1) p px from fun u k => (HU.out u k).2.2 i p px hp hx)
      obtain ⟨b, o, rfl, hb, rg⟩ := (HU.out wr (hI.stp.chg.mono fun _ h => .inl h)).1.sl.range hx
      have Hd := Lib.hid (drop_next hp)
      have Hik := Lib.hid hik
      have Hwp := Lib.hid (Hl.out p (List.mem_of_getElem? hp))
      have Hem := Lib.hid (emp_pc FP.out.now)
      have Hsm := Lib.hid (small_pc FP.out.now)
      have HmB := Lib.hid (show m ≤ 1000000 from by omega)
      clear hp hx hik hi hm hI hmi
      by_cases hem : Tr.emp p = true
      · -- nothing in it
        have hq := Hem.out
        rw [hem] at hq
        obtain ⟨pk, pe, pb, pf, pA, pn, pc⟩ := px
        obtain ⟨rfl, rfl⟩ : pf = true ∧ pn = 0 := by simpa using hq
        have N := Lib.hid (show ∀ u, Below wr.heap.size wr u → FtI D w X G h l st (i + 1) s (.slice O m co) cs u Xr sr from fun u hu => ft_skip D HI.out Hd.out hem hu)
        clear hq hem
        go_wp2_with ((with_reducible show wpList _ _ _ (⟨some 19, Op.load 160 _, _, _, _, _⟩ :: _) _ _); refine wpList_load_mid rfl 160 _ rfl b (o + i * 14) rfl [.int .i64 pk, .int .i64 pe.k, .int .i64 pe.p.1, .int .i64 pe.p.2.1, .int .i64 pe.p.2.2, .int .i64 pe.g, .int .i64 pb.k.1, .int .i64 pb.k.2.1, .int .i64 pb.k.2.2, .int .i64 pb.h, .int .i64 pb.f, .int .i64 pb.t, .bool true, .slice pA 0 pc] d0 rg hd0 hd1 part_size ?_)
        go_roundw
        case rel => exact ⟨i + 1, s, cs, Xr, sr, by go_num, Hik.out, N.out _ (below_alloc1 _ _)⟩
        case measure => exact meas_up Hik.out
      · have Hne := Lib.hid hem
        clear hem
        have hmi : m ≤ 1000000 := HmB.out
        obtain ⟨pk, pe, pb, pf, pA, pn, pc⟩ := px
        cases s with
        | nil =>
          have z0 : m = 0 := by rw [← Hm.out]; rfl
          subst z0
          cases pf
          · go_wp2_with (first
              | ((with_reducible show wpList _ _ _ (⟨some 19, Op.load 160 _, _, _, _, _⟩ :: _) _ _); refine wpList_load_mid rfl 160 _ rfl b (o + i * 14) rfl [.int .i64 pk, .int .i64 pe.k, .int .i64 pe.p.1, .int .i64 pe.p.2.1, .int .i64 pe.p.2.2, .int .i64 pe.g, .int .i64 pb.k.1, .int .i64 pb.k.2.1, .int .i64 pb.k.2.2, .int .i64 pb.h, .int .i64 pb.f, .int .i64 pb.t, .bool false, .slice pA pn pc] d0 rg hd0 hd1 part_size ?_)
              | (at_builtin; refine wpList_append_sls _ rfl (.tmp 28) (.tmp 30) _ rfl Try.underlying158 hi0 hz0 hs0 hb0' rfl (by decide) rfl (pq_own ((List.length_reverse ..).trans Hm.out) (HI.out.row.below (below_alloc2 _ _ _))) (m := 1) (news := pcs [⟨pk, pe, pb, false, pA, pn, pc⟩]) rfl rfl (by simp) (Nat.le_refl _) (sl_14' ⟨pk, pe, pb, false, pA, pn, pc⟩) (pcs_one _) (by unfold maxLen; omega) (by omega) (HI.out.stp.below (below_alloc2 _ _ _)).chg.size ?_; intro v7 w7 h1 h2 h3; (obtain ⟨A7, c7, rfl⟩ := own_slice h1); (have P7 := Lib.hid (ft_push D HI.out HG.out FP.out Hm.out rfl (below_alloc2 _ _ _) h1 h2 h3)); clear h1 h2 h3))
            go_roundw
            case rel => exact ⟨i + 1, [p], _, Xr, sr, by go_num, Hik.out, ft_put D HI.out Hd.out Hne.out Hwp.out (fun y s' e => by cases e) P7.out⟩
            case measure => exact meas_up Hik.out
          · have zn : ((pn : Int) == 0) = false := by rw [beq_eq_false_iff_ne]; intro e; apply Hne.out; rw [← Hem.out]; simp; omega
            go_wp2_with (first
              | ((with_reducible show wpList _ _ _ (⟨some 19, Op.load 160 _, _, _, _, _⟩ :: _) _ _); refine wpList_load_mid rfl 160 _ rfl b (o + i * 14) rfl [.int .i64 pk, .int .i64 pe.k, .int .i64 pe.p.1, .int .i64 pe.p.2.1, .int .i64 pe.p.2.2, .int .i64 pe.g, .int .i64 pb.k.1, .int .i64 pb.k.2.1, .int .i64 pb.k.2.2, .int .i64 pb.h, .int .i64 pb.f, .int .i64 pb.t, .bool true, .slice pA pn pc] d0 rg hd0 hd1 part_size ?_)
              | (at_builtin; refine wpList_append_sls _ rfl (.tmp 28) (.tmp 30) _ rfl Try.underlying158 hi0 hz0 hs0 hb0' rfl (by decide) rfl (pq_own ((List.length_reverse ..).trans Hm.out) (HI.out.row.below (below_alloc2 _ _ _))) (m := 1) (news := pcs [⟨pk, pe, pb, true, pA, pn, pc⟩]) rfl rfl (by simp) (Nat.le_refl _) (sl_14' ⟨pk, pe, pb, true, pA, pn, pc⟩) (pcs_one _) (by unfold maxLen; omega) (by omega) (HI.out.stp.below (below_alloc2 _ _ _)).chg.size ?_; intro v7 w7 h1 h2 h3; (obtain ⟨A7, c7, rfl⟩ := own_slice h1); (have P7 := Lib.hid (ft_push D HI.out HG.out FP.out Hm.out rfl (below_alloc2 _ _ _) h1 h2 h3)); clear h1 h2 h3))
            go_roundw
            case rel => exact ⟨i + 1, [p], _, Xr, sr, by go_num, Hik.out, ft_put D HI.out Hd.out Hne.out Hwp.out (fun y s' e => by cases e) P7.out⟩
            case measure => exact meas_up Hik.out
        | cons y s' =>
          obtain ⟨q, hq⟩ : ∃ q, s'.length = q := ⟨_, rfl⟩
          have hmq : m = q + 1 := by rw [← Hm.out, List.length_cons, hq]
          obtain ⟨qy, hqy, hys⟩ := ft_last HI.out.row hq
          obtain ⟨M, hM⟩ : ∃ M, m + 1 = M := ⟨_, rfl⟩
          have zA : decide ((1 : Int) < (M : Int)) = true := by rw [decide_eq_true_eq]; omega
          have zB : wrap64 ((M : Int) - 2) = (q : Int) := by simp only [wrap64]; omega
          have zC : (q : Int) < (M : Int) := by omega
          have zD : decide (1 < M) = true := by rw [decide_eq_true_eq]; omega
          have HM := Lib.hid hM
          have HM0 := Lib.hid (show 0 < M by omega)
          have Hqy := Lib.hid hqy
          have Hq := Lib.hid hq
          have Hmq := Lib.hid hmq
          by_cases hsm : Tr.small y = true
          ·
            have Hsmt := Lib.hid hsm
            rw [hsm] at hys
            have HSm := Lib.hid (fun u => issmall_any qy u true hys)
            dsimp only [pcv] at HSm
            have hwt : Tr.wt (h + 1) y + Tr.wt (h + 1) p + Tr.wts s' + Tr.wts (l.drop (i + 1)) ≤ 1000000 := by
              have := HI.out.wt
              rw [Hd.out, Tr.wts_cons, Tr.wts_cons] at this
              omega
            have hwy := HI.out.wf y (List.mem_cons_self ..)
            have HJ0 := Lib.hid (fun w8 v7 cs7 (hP : FtP D w X G h (p :: y :: s') v7 cs7 w8 Xr sr) => ft_join D hP HG.out hq (by omega) hwy Hwp.out (by omega) hh HF)
            have heq := ft_eqj D HI.out Hd.out Hne.out hsm
            rcases hj : Tr.join D.S h sr y p with ⟨sj, er | z⟩
            · have her := join_err D (show (Tr.join D.S h sr y p).2 = .error er by rw [hj])
              have zE : ((er : Int) != 0) = true := by simpa using her
              have Her := Lib.hid her
              have HJ := HJ0
              rw [hj] at HJ heq
              have FT := Lib.hid (show Tr.fit D.S h st l = (sj, .error er) by unfold Tr.fit Tr.fitJ; rw [heq])
              dsimp only at HJ
              clear hqy hys hM hq hmq hsm hwt hwy heq hj her HJ0 HF hh
              cases pf
              · go_wp2_with (first
                  | ((with_reducible show wpList _ _ _ (⟨some 19, Op.load 160 _, _, _, _, _⟩ :: _) _ _); refine wpList_load_mid rfl 160 _ rfl b (o + i * 14) rfl [.int .i64 pk, .int .i64 pe.k, .int .i64 pe.p.1, .int .i64 pe.p.2.1, .int .i64 pe.p.2.2, .int .i64 pe.g, .int .i64 pb.k.1, .int .i64 pb.k.2.1, .int .i64 pb.k.2.2, .int .i64 pb.h, .int .i64 pb.f, .int .i64 pb.t, .bool false, .slice pA pn pc] d0 rg hd0 hd1 part_size ?_)
                  | ((with_reducible show wpList _ _ _ (⟨some 41, Op.load 160 _, _, _, _, _⟩ :: _) _ _); refine wpList_load_midg rfl 160 _ rfl g7 (q * 14) rfl [.int .i64 qy.k, .int .i64 qy.e.k, .int .i64 qy.e.p.1, .int .i64 qy.e.p.2.1, .int .i64 qy.e.p.2.2, .int .i64 qy.e.g, .int .i64 qy.b.k.1, .int .i64 qy.b.k.2.1, .int .i64 qy.b.k.2.2, .int .i64 qy.b.h, .int .i64 qy.b.f, .int .i64 qy.b.t, .bool qy.fr, .slice qy.A qy.n qy.c] d0 rg7 hd0 hd1 part_size ?_)
                  | (go_at_call 111; (with_reducible refine (HSm.out w7).mono ?_); rintro e w8 ⟨rfl, hb8⟩; (have P8 := Lib.hid (P7.out.below D hb8)); clear hb8)
                  | (go_at_call 112; (with_reducible refine (HJ.out w8 _ _ P8.out).mono ?_); rintro e w9 ⟨X9, hR9, hS9, rfl⟩; (have P9 := Lib.hid (show D.Rep w9 X9 sj ∧ Stp w X w9 X9 from ⟨hR9, hS9⟩)); clear hR9 hS9)
                  | (at_builtin; refine wpList_append_sls _ rfl (.tmp 28) (.tmp 30) _ rfl Try.underlying158 hi0 hz0 hs0 hb0' rfl (by decide) rfl (pq_own ((List.length_reverse ..).trans Hm.out) (HI.out.row.below (below_alloc2 _ _ _))) (m := 1) (news := pcs [⟨pk, pe, pb, false, pA, pn, pc⟩]) rfl rfl (by simp) (Nat.le_refl _) (sl_14' ⟨pk, pe, pb, false, pA, pn, pc⟩) (pcs_one _) (by unfold maxLen; omega) (by omega) (HI.out.stp.below (below_alloc2 _ _ _)).chg.size ?_; intro v7 w7 h1 h2 h3; rw [HM.out] at h1; (obtain ⟨g7, c7, rfl⟩ := own_some h1 HM0.out); (have rg7 := own_range (own_pcs1 h1) (get_app Hqy.out));  (have P7 := Lib.hid (ft_push D HI.out HG.out FP.out Hm.out HM.out (below_alloc2 _ _ _) h1 h2 h3)); clear h1 h2 h3))
                go_returns
                rw [show Tr.fit D.S h st l = (sj, .error er) from FT.out]
                exact ⟨X9, P9.out.1, P9.out.2, none, 0, 0, er, rfl, rfl, Her.out, rfl, rfl, rfl⟩
              · have zn : ((pn : Int) == 0) = false := by rw [beq_eq_false_iff_ne]; intro e; apply Hne.out; rw [← Hem.out]; simp; omega
                go_wp2_with (first
                  | ((with_reducible show wpList _ _ _ (⟨some 19, Op.load 160 _, _, _, _, _⟩ :: _) _ _); refine wpList_load_mid rfl 160 _ rfl b (o + i * 14) rfl [.int .i64 pk, .int .i64 pe.k, .int .i64 pe.p.1, .int .i64 pe.p.2.1, .int .i64 pe.p.2.2, .int .i64 pe.g, .int .i64 pb.k.1, .int .i64 pb.k.2.1, .int .i64 pb.k.2.2, .int .i64 pb.h, .int .i64 pb.f, .int .i64 pb.t, .bool true, .slice pA pn pc] d0 rg hd0 hd1 part_size ?_)
                  | ((with_reducible show wpList _ _ _ (⟨some 41, Op.load 160 _, _, _, _, _⟩ :: _) _ _); refine wpList_load_midg rfl 160 _ rfl g7 (q * 14) rfl [.int .i64 qy.k, .int .i64 qy.e.k, .int .i64 qy.e.p.1, .int .i64 qy.e.p.2.1, .int .i64 qy.e.p.2.2, .int .i64 qy.e.g, .int .i64 qy.b.k.1, .int .i64 qy.b.k.2.1, .int .i64 qy.b.k.2.2, .int .i64 qy.b.h, .int .i64 qy.b.f, .int .i64 qy.b.t, .bool qy.fr, .slice qy.A qy.n qy.c] d0 rg7 hd0 hd1 part_size ?_)
                  | (go_at_call 111; (with_reducible refine (HSm.out w7).mono ?_); rintro e w8 ⟨rfl, hb8⟩; (have P8 := Lib.hid (P7.out.below D hb8)); clear hb8)
                  | (go_at_call 112; (with_reducible refine (HJ.out w8 _ _ P8.out).mono ?_); rintro e w9 ⟨X9, hR9, hS9, rfl⟩; (have P9 := Lib.hid (show D.Rep w9 X9 sj ∧ Stp w X w9 X9 from ⟨hR9, hS9⟩)); clear hR9 hS9)
                  | (at_builtin; refine wpList_append_sls _ rfl (.tmp 28) (.tmp 30) _ rfl Try.underlying158 hi0 hz0 hs0 hb0' rfl (by decide) rfl (pq_own ((List.length_reverse ..).trans Hm.out) (HI.out.row.below (below_alloc2 _ _ _))) (m := 1) (news := pcs [⟨pk, pe, pb, true, pA, pn, pc⟩]) rfl rfl (by simp) (Nat.le_refl _) (sl_14' ⟨pk, pe, pb, true, pA, pn, pc⟩) (pcs_one _) (by unfold maxLen; omega) (by omega) (HI.out.stp.below (below_alloc2 _ _ _)).chg.size ?_; intro v7 w7 h1 h2 h3; rw [HM.out] at h1; (obtain ⟨g7, c7, rfl⟩ := own_some h1 HM0.out); (have rg7 := own_range (own_pcs1 h1) (get_app Hqy.out));  (have P7 := Lib.hid (ft_push D HI.out HG.out FP.out Hm.out HM.out (below_alloc2 _ _ _) h1 h2 h3)); clear h1 h2 h3))
                go_returns
                rw [show Tr.fit D.S h st l = (sj, .error er) from FT.out]
                exact ⟨X9, P9.out.1, P9.out.2, none, 0, 0, er, rfl, rfl, Her.out, rfl, rfl, rfl⟩
            · have HJ := HJ0
              have hzw := Tr.join_wf D.S h hwy Hwp.out (show (Tr.join D.S h sr y p).2 = .ok z by rw [hj])
              rw [hj] at HJ heq
              have FN := Lib.hid (show ∀ (u : World) (Xu : Nat → Prop) (v : Value) (cs : List Tr.PC), FtP D w X G h (z :: s') v cs u Xu sj → FtI D w X G h l st (i + 1) (z :: s') v cs u Xu sj from fun u Xu v cs hP => ⟨hP.rep, hP.stp, hP.row, heq, fun r hr => (List.mem_cons.1 hr).elim (fun e => e ▸ hzw.1) (fun hr => HI.out.wf r (List.mem_cons_of_mem _ hr)), by rw [Tr.wts_cons]; have := hzw.2; omega, by rw [List.length_cons]; have := HI.out.len; rw [List.length_cons] at this; omega⟩)
              dsimp only at HJ
              clear hqy hys hM hq hmq hsm hwt hwy heq hj hzw HJ0 HF hh
              cases pf
              · go_wp2_with (first
                  | ((with_reducible show wpList _ _ _ (⟨some 19, Op.load 160 _, _, _, _, _⟩ :: _) _ _); refine wpList_load_mid rfl 160 _ rfl b (o + i * 14) rfl [.int .i64 pk, .int .i64 pe.k, .int .i64 pe.p.1, .int .i64 pe.p.2.1, .int .i64 pe.p.2.2, .int .i64 pe.g, .int .i64 pb.k.1, .int .i64 pb.k.2.1, .int .i64 pb.k.2.2, .int .i64 pb.h, .int .i64 pb.f, .int .i64 pb.t, .bool false, .slice pA pn pc] d0 rg hd0 hd1 part_size ?_)
                  | ((with_reducible show wpList _ _ _ (⟨some 41, Op.load 160 _, _, _, _, _⟩ :: _) _ _); refine wpList_load_midg rfl 160 _ rfl g7 (q * 14) rfl [.int .i64 qy.k, .int .i64 qy.e.k, .int .i64 qy.e.p.1, .int .i64 qy.e.p.2.1, .int .i64 qy.e.p.2.2, .int .i64 qy.e.g, .int .i64 qy.b.k.1, .int .i64 qy.b.k.2.1, .int .i64 qy.b.k.2.2, .int .i64 qy.b.h, .int .i64 qy.b.f, .int .i64 qy.b.t, .bool qy.fr, .slice qy.A qy.n qy.c] d0 rg7 hd0 hd1 part_size ?_)
                  | (go_at_call 111; (with_reducible refine (HSm.out w7).mono ?_); rintro e w8 ⟨rfl, hb8⟩; (have P8 := Lib.hid (P7.out.below D hb8)); clear hb8)
                  | (go_at_call 112; (with_reducible refine (HJ.out w8 _ _ P8.out).mono ?_); rintro e w9 ⟨X9, hR9, hS9, A9, c9, cs9, rfl, hp9⟩; (have P9 := Lib.hid (show FtP D w X G h (z :: s') (.slice A9 (q + 1) c9) cs9 w9 X9 sj from ⟨hR9, hS9, hp9⟩)); clear hR9 hS9 hp9)
                  | (at_builtin; refine wpList_append_sls _ rfl (.tmp 28) (.tmp 30) _ rfl Try.underlying158 hi0 hz0 hs0 hb0' rfl (by decide) rfl (pq_own ((List.length_reverse ..).trans Hm.out) (HI.out.row.below (below_alloc2 _ _ _))) (m := 1) (news := pcs [⟨pk, pe, pb, false, pA, pn, pc⟩]) rfl rfl (by simp) (Nat.le_refl _) (sl_14' ⟨pk, pe, pb, false, pA, pn, pc⟩) (pcs_one _) (by unfold maxLen; omega) (by omega) (HI.out.stp.below (below_alloc2 _ _ _)).chg.size ?_; intro v7 w7 h1 h2 h3; rw [HM.out] at h1; (obtain ⟨g7, c7, rfl⟩ := own_some h1 HM0.out); (have rg7 := own_range (own_pcs1 h1) (get_app Hqy.out));  (have P7 := Lib.hid (ft_push D HI.out HG.out FP.out Hm.out HM.out (below_alloc2 _ _ _) h1 h2 h3)); clear h1 h2 h3))
                go_roundw
                case rel => exact ⟨i + 1, z :: s', _, X9, sj, by go_num, Hik.out, FN.out _ _ _ _ P9.out⟩
                case measure => exact meas_up Hik.out
              · have zn : ((pn : Int) == 0) = false := by rw [beq_eq_false_iff_ne]; intro e; apply Hne.out; rw [← Hem.out]; simp; omega
                go_wp2_with (first
                  | ((with_reducible show wpList _ _ _ (⟨some 19, Op.load 160 _, _, _, _, _⟩ :: _) _ _); refine wpList_load_mid rfl 160 _ rfl b (o + i * 14) rfl [.int .i64 pk, .int .i64 pe.k, .int .i64 pe.p.1, .int .i64 pe.p.2.1, .int .i64 pe.p.2.2, .int .i64 pe.g, .int .i64 pb.k.1, .int .i64 pb.k.2.1, .int .i64 pb.k.2.2, .int .i64 pb.h, .int .i64 pb.f, .int .i64 pb.t, .bool true, .slice pA pn pc] d0 rg hd0 hd1 part_size ?_)
                  | ((with_reducible show wpList _ _ _ (⟨some 41, Op.load 160 _, _, _, _, _⟩ :: _) _ _); refine wpList_load_midg rfl 160 _ rfl g7 (q * 14) rfl [.int .i64 qy.k, .int .i64 qy.e.k, .int .i64 qy.e.p.1, .int .i64 qy.e.p.2.1, .int .i64 qy.e.p.2.2, .int .i64 qy.e.g, .int .i64 qy.b.k.1, .int .i64 qy.b.k.2.1, .int .i64 qy.b.k.2.2, .int .i64 qy.b.h, .int .i64 qy.b.f, .int .i64 qy.b.t, .bool qy.fr, .slice qy.A qy.n qy.c] d0 rg7 hd0 hd1 part_size ?_)
                  | (go_at_call 111; (with_reducible refine (HSm.out w7).mono ?_); rintro e w8 ⟨rfl, hb8⟩; (have P8 := Lib.hid (P7.out.below D hb8)); clear hb8)
                  | (go_at_call 112; (with_reducible refine (HJ.out w8 _ _ P8.out).mono ?_); rintro e w9 ⟨X9, hR9, hS9, A9, c9, cs9, rfl, hp9⟩; (have P9 := Lib.hid (show FtP D w X G h (z :: s') (.slice A9 (q + 1) c9) cs9 w9 X9 sj from ⟨hR9, hS9, hp9⟩)); clear hR9 hS9 hp9)
                  | (at_builtin; refine wpList_append_sls _ rfl (.tmp 28) (.tmp 30) _ rfl Try.underlying158 hi0 hz0 hs0 hb0' rfl (by decide) rfl (pq_own ((List.length_reverse ..).trans Hm.out) (HI.out.row.below (below_alloc2 _ _ _))) (m := 1) (news := pcs [⟨pk, pe, pb, true, pA, pn, pc⟩]) rfl rfl (by simp) (Nat.le_refl _) (sl_14' ⟨pk, pe, pb, true, pA, pn, pc⟩) (pcs_one _) (by unfold maxLen; omega) (by omega) (HI.out.stp.below (below_alloc2 _ _ _)).chg.size ?_; intro v7 w7 h1 h2 h3; rw [HM.out] at h1; (obtain ⟨g7, c7, rfl⟩ := own_some h1 HM0.out); (have rg7 := own_range (own_pcs1 h1) (get_app Hqy.out));  (have P7 := Lib.hid (ft_push D HI.out HG.out FP.out Hm.out HM.out (below_alloc2 _ _ _) h1 h2 h3)); clear h1 h2 h3))
                go_roundw
                case rel => exact ⟨i + 1, z :: s', _, X9, sj, by go_num, Hik.out, FN.out _ _ _ _ P9.out⟩
                case measure => exact meas_up Hik.out
          · have hsm' : Tr.small y = false := by simpa using hsm
            have Hs0 := Lib.hid hsm'
            rw [hsm'] at hys
            have HSm := Lib.hid (fun u => issmall_any qy u false hys)
            dsimp only [pcv] at HSm
            clear hqy hys hM hq hmq hsm hsm'
            cases pf
            · go_wp2_with (first
                | ((with_reducible show wpList _ _ _ (⟨some 19, Op.load 160 _, _, _, _, _⟩ :: _) _ _); refine wpList_load_mid rfl 160 _ rfl b (o + i * 14) rfl [.int .i64 pk, .int .i64 pe.k, .int .i64 pe.p.1, .int .i64 pe.p.2.1, .int .i64 pe.p.2.2, .int .i64 pe.g, .int .i64 pb.k.1, .int .i64 pb.k.2.1, .int .i64 pb.k.2.2, .int .i64 pb.h, .int .i64 pb.f, .int .i64 pb.t, .bool false, .slice pA pn pc] d0 rg hd0 hd1 part_size ?_)
                | ((with_reducible show wpList _ _ _ (⟨some 41, Op.load 160 _, _, _, _, _⟩ :: _) _ _); refine wpList_load_midg rfl 160 _ rfl g7 (q * 14) rfl [.int .i64 qy.k, .int .i64 qy.e.k, .int .i64 qy.e.p.1, .int .i64 qy.e.p.2.1, .int .i64 qy.e.p.2.2, .int .i64 qy.e.g, .int .i64 qy.b.k.1, .int .i64 qy.b.k.2.1, .int .i64 qy.b.k.2.2, .int .i64 qy.b.h, .int .i64 qy.b.f, .int .i64 qy.b.t, .bool qy.fr, .slice qy.A qy.n qy.c] d0 rg7 hd0 hd1 part_size ?_)
                | (go_at_call 111; (with_reducible refine (HSm.out w7).mono ?_); rintro e w8 ⟨rfl, hb8⟩; (have P8 := Lib.hid (P7.out.below D hb8)); clear hb8)
                | (at_builtin; refine wpList_append_sls _ rfl (.tmp 28) (.tmp 30) _ rfl Try.underlying158 hi0 hz0 hs0 hb0' rfl (by decide) rfl (pq_own ((List.length_reverse ..).trans Hm.out) (HI.out.row.below (below_alloc2 _ _ _))) (m := 1) (news := pcs [⟨pk, pe, pb, false, pA, pn, pc⟩]) rfl rfl (by simp) (Nat.le_refl _) (sl_14' ⟨pk, pe, pb, false, pA, pn, pc⟩) (pcs_one _) (by unfold maxLen; omega) (by omega) (HI.out.stp.below (below_alloc2 _ _ _)).chg.size ?_; intro v7 w7 h1 h2 h3; rw [HM.out] at h1; (obtain ⟨g7, c7, rfl⟩ := own_some h1 HM0.out); (have rg7 := own_range (own_pcs1 h1) (get_app Hqy.out));  (have P7 := Lib.hid (ft_push D HI.out HG.out FP.out Hm.out HM.out (below_alloc2 _ _ _) h1 h2 h3)); clear h1 h2 h3))
              go_roundw
              case rel => exact ⟨i + 1, p :: y :: s', _, Xr, sr, by go_num, Hik.out, ft_put D HI.out Hd.out Hne.out Hwp.out (fun y1 s1 e => by injection e with e; rw [← e]; exact Hs0.out) P8.out⟩
              case measure => exact meas_up Hik.out
            · have zn : ((pn : Int) == 0) = false := by rw [beq_eq_false_iff_ne]; intro e; apply Hne.out; rw [← Hem.out]; simp; omega
              go_wp2_with (first
                | ((with_reducible show wpList _ _ _ (⟨some 19, Op.load 160 _, _, _, _, _⟩ :: _) _ _); refine wpList_load_mid rfl 160 _ rfl b (o + i * 14) rfl [.int .i64 pk, .int .i64 pe.k, .int .i64 pe.p.1, .int .i64 pe.p.2.1, .int .i64 pe.p.2.2, .int .i64 pe.g, .int .i64 pb.k.1, .int .i64 pb.k.2.1, .int .i64 pb.k.2.2, .int .i64 pb.h, .int .i64 pb.f, .int .i64 pb.t, .bool true, .slice pA pn pc] d0 rg hd0 hd1 part_size ?_)
                | ((with_reducible show wpList _ _ _ (⟨some 41, Op.load 160 _, _, _, _, _⟩ :: _) _ _); refine wpList_load_midg rfl 160 _ rfl g7 (q * 14) rfl [.int .i64 qy.k, .int .i64 qy.e.k, .int .i64 qy.e.p.1, .int .i64 qy.e.p.2.1, .int .i64 qy.e.p.2.2, .int .i64 qy.e.g, .int .i64 qy.b.k.1, .int .i64 qy.b.k.2.1, .int .i64 qy.b.k.2.2, .int .i64 qy.b.h, .int .i64 qy.b.f, .int .i64 qy.b.t, .bool qy.fr, .slice qy.A qy.n qy.c] d0 rg7 hd0 hd1 part_size ?_)
                | (go_at_call 111; (with_reducible refine (HSm.out w7).mono ?_); rintro e w8 ⟨rfl, hb8⟩; (have P8 := Lib.hid (P7.out.below D hb8)); clear hb8)
                | (at_builtin; refine wpList_append_sls _ rfl (.tmp 28) (.tmp 30) _ rfl Try.underlying158 hi0 hz0 hs0 hb0' rfl (by decide) rfl (pq_own ((List.length_reverse ..).trans Hm.out) (HI.out.row.below (below_alloc2 _ _ _))) (m := 1) (news := pcs [⟨pk, pe, pb, true, pA, pn, pc⟩]) rfl rfl (by simp) (Nat.le_refl _) (sl_14' ⟨pk, pe, pb, true, pA, pn, pc⟩) (pcs_one _) (by unfold maxLen; omega) (by omega) (HI.out.stp.below (below_alloc2 _ _ _)).chg.size ?_; intro v7 w7 h1 h2 h3; rw [HM.out] at h1; (obtain ⟨g7, c7, rfl⟩ := own_some h1 HM0.out); (have rg7 := own_range (own_pcs1 h1) (get_app Hqy.out));  (have P7 := Lib.hid (ft_push D HI.out HG.out FP.out Hm.out HM.out (below_alloc2 _ _ _) h1 h2 h3)); clear h1 h2 h3))
              go_roundw
              case rel => exact ⟨i + 1, p :: y :: s', _, Xr, sr, by go_num, Hik.out, ft_put D HI.out Hd.out Hne.out Hwp.out (fun y1 s1 e => by injection e with e; rw [← e]; exact Hs0.out) P8.out⟩
              case measure => exact meas_up Hik.out
    · obtain rfl : i = n := by omega
      have HB0 := Lib.hid (ft_end D hI Hn.out.symm few)
      have y0 : decide ((i : Int) < (i : Int)) = false := by rw [decide_eq_false_iff_not]; omega
      clear hik hi hI hmi
      go_wp2_with fail
      go_loopw [8] (fun v8 wr => ∃ (s2 : List (Tr.Pt (h + 1))) (cs2 : List Tr.PC) (X2 : Nat → Prop) (sr2 : σ) (k : Nat), FtB D w X G h l st k s2 v8 cs2 wr X2 sr2) (fun v8 _ => lenV v8)
      case atStart => exact ⟨s, cs, Xr, sr, s.length, HB0.out⟩
      case round =>
        obtain ⟨s2, cs2, X2, sr2, k, hB⟩ := hrel
        obtain ⟨M, hM⟩ : ∃ M, s2.length = M := ⟨_, rfl⟩
        obtain ⟨O2, co2, e8⟩ := hB.at_.row.form
        rw [List.length_reverse, hM] at e8
        subst e8
        have HB := Lib.hid hB
        have HM := Lib.hid hM
        have hMb : M ≤ 1000000 := by rw [← hM]; exact hB.len
        by_cases h1 : M ≤ 1
        · have zA : decide ((1 : Int) < (M : Int)) = false := by rw [decide_eq_false_iff_not]; omega
          have zA' : decide (1 < M) = false := by rw [decide_eq_false_iff_not]; omega
          have HSp := Lib.hid (fun (u : World) (hu : Below wr.heap.size wr u) => ft_split D HB.out HG.out HM.out (.inl (by rw [hM]; exact h1)) hu)
          clear hB hM h1 HF hh
          go_wp2_with (first
            | (go_at_call 113; (with_reducible refine (HSp.out _ (Below.refl _ _)).mono ?_); rintro e w9 ⟨A9, n9, c9, rfl, hp9⟩; (have P9 := Lib.hid hp9); clear hp9))
          go_returns
          exact P9.out
        · obtain ⟨x, r, rfl⟩ : ∃ x r, s2 = x :: r := by
            cases s2 with
            | nil => exact absurd (by rw [← hM]; exact Nat.zero_le _) h1
            | cons x r => exact ⟨x, r, rfl⟩
          obtain ⟨q, hq⟩ : ∃ q, r.length = q := ⟨_, rfl⟩
          have hmq : M = q + 1 := by rw [← hM, List.length_cons, hq]
          have zA : decide ((1 : Int) < (M : Int)) = true := by rw [decide_eq_true_eq]; omega
          have zA' : decide (1 < M) = true := by rw [decide_eq_true_eq]; omega
          have zB : wrap64 ((M : Int) - 1) = (q : Int) := by simp only [wrap64]; omega
          have zC : (q : Int) < (M : Int) := by omega
          obtain ⟨qx, hqx, hxs⟩ := ft_last hB.at_.row hq
          have hown : wr.ownsRow w.heap.size 160 14 (.slice O2 M co2) M (pcs cs2) := pq_own ((List.length_reverse ..).trans hM) hB.at_.row
          obtain ⟨g7, c7, e7⟩ := own_some hown (by omega)
          injection e7 with e7 _ e7'
          subst e7; subst e7'
          have rg7 : wr.rangeAt g7 ((M - 1) * 14) (pc1 qx) := by rw [show M - 1 = q by omega]; exact own_range hown hqx
          by_cases hsm : Tr.small x = true
          · rw [hsm] at hxs
            have HSm := Lib.hid (fun u => issmall_any qx u true hxs)
            dsimp only [pcv] at HSm
            obtain ⟨y, s3, rfl⟩ : ∃ y s3, r = y :: s3 := by
              cases r with
              | nil => exact absurd (show M ≤ 1 by rw [hmq, ← hq]; exact Nat.le_refl _) h1
              | cons y s3 => exact ⟨y, s3, rfl⟩
            obtain ⟨q1, hq1⟩ : ∃ q, s3.length = q := ⟨_, rfl⟩
            have hmq1 : M = q1 + 1 + 1 := by rw [hmq, ← hq, List.length_cons, hq1]
            obtain ⟨k', hk', heq⟩ := ft_more D hB hsm
            have hwt : Tr.wt (h + 1) x + (Tr.wt (h + 1) y + Tr.wts s3) ≤ 1000000 := by have := hB.wt; rw [Tr.wts_cons, Tr.wts_cons] at this; exact this
            have hwx := hB.wf x (List.mem_cons_self ..)
            have hwy := hB.wf y (List.mem_cons_of_mem _ (List.mem_cons_self ..))
            have HJ0 := Lib.hid (fun w8 v7 cs7 (hP : FtP D w X G h (x :: y :: s3) v7 cs7 w8 X2 sr2) => ft_join D hP HG.out hq1 (by omega) hwy hwx (by omega) hh HF)
            rcases hj : Tr.join D.S h sr2 y x with ⟨sj, er | z⟩
            · have her := join_err D (show (Tr.join D.S h sr2 y x).2 = .error er by rw [hj])
              have zE : ((er : Int) != 0) = true := by simpa using her
              have Her := Lib.hid her
              have HJ := HJ0
              rw [hj] at HJ heq
              have FT := Lib.hid (show Tr.fit D.S h st l = (sj, .error er) from heq)
              dsimp only at HJ
              clear hB hM h1 hq hmq hqx hxs hown hsm hq1 hmq1 hk' heq hwt hwx hwy hj her HJ0 HF hh
              go_wp2_with (first
                | ((with_reducible show wpList _ _ _ (⟨some 64, Op.load 160 _, _, _, _, _⟩ :: _) _ _); refine wpList_load_midg rfl 160 _ rfl g7 ((M - 1) * 14) rfl [.int .i64 qx.k, .int .i64 qx.e.k, .int .i64 qx.e.p.1, .int .i64 qx.e.p.2.1, .int .i64 qx.e.p.2.2, .int .i64 qx.e.g, .int .i64 qx.b.k.1, .int .i64 qx.b.k.2.1, .int .i64 qx.b.k.2.2, .int .i64 qx.b.h, .int .i64 qx.b.f, .int .i64 qx.b.t, .bool qx.fr, .slice qx.A qx.n qx.c] d0 rg7 hd0 hd1 part_size ?_)
                | (go_at_call 111; (with_reducible refine (HSm.out wr).mono ?_); rintro e w8 ⟨rfl, hb8⟩; (have B8 := Lib.hid hb8); clear hb8)
                | (go_at_call 112; (with_reducible refine (HJ.out w8 _ _ (HB.out.at_.below D B8.out)).mono ?_); rintro e w9 ⟨X9, hR9, hS9, rfl⟩; (have P9 := Lib.hid (show D.Rep w9 X9 sj ∧ Stp w X w9 X9 from ⟨hR9, hS9⟩)); clear hR9 hS9))
              go_returns
              rw [show Tr.fit D.S h st l = (sj, .error er) from FT.out]
              exact ⟨X9, P9.out.1, P9.out.2, none, 0, 0, er, rfl, rfl, Her.out, rfl, rfl, rfl⟩
            · have HJ := HJ0
              have hzw := Tr.join_wf D.S h hwy hwx (show (Tr.join D.S h sr2 y x).2 = .ok z by rw [hj])
              rw [hj] at HJ heq
              have FN := Lib.hid (show ∀ (u : World) (Xu : Nat → Prop) (v : Value) (cs : List Tr.PC), FtP D w X G h (z :: s3) v cs u Xu sj → FtB D w X G h l st k' (z :: s3) v cs u Xu sj from fun u Xu v cs hP => ⟨hP, heq, by have := hB.le; rw [List.length_cons, List.length_cons] at this; rw [List.length_cons]; omega, fun r hr => (List.mem_cons.1 hr).elim (fun e => e ▸ hzw.1) (fun hr => hB.wf r (List.mem_cons_of_mem _ (List.mem_cons_of_mem _ hr))), by rw [Tr.wts_cons]; have := hzw.2; omega, by rw [List.length_cons, hq1]; omega⟩)
              have Hlt := Lib.hid (show q1 + 1 < M by omega)
              dsimp only at HJ
              clear hB hM h1 hq hmq hqx hxs hown hsm hq1 hmq1 hk' heq hwt hwx hwy hj hzw HJ0 HF hh
              go_wp2_with (first
                | ((with_reducible show wpList _ _ _ (⟨some 64, Op.load 160 _, _, _, _, _⟩ :: _) _ _); refine wpList_load_midg rfl 160 _ rfl g7 ((M - 1) * 14) rfl [.int .i64 qx.k, .int .i64 qx.e.k, .int .i64 qx.e.p.1, .int .i64 qx.e.p.2.1, .int .i64 qx.e.p.2.2, .int .i64 qx.e.g, .int .i64 qx.b.k.1, .int .i64 qx.b.k.2.1, .int .i64 qx.b.k.2.2, .int .i64 qx.b.h, .int .i64 qx.b.f, .int .i64 qx.b.t, .bool qx.fr, .slice qx.A qx.n qx.c] d0 rg7 hd0 hd1 part_size ?_)
                | (go_at_call 111; (with_reducible refine (HSm.out wr).mono ?_); rintro e w8 ⟨rfl, hb8⟩; (have B8 := Lib.hid hb8); clear hb8)
                | (go_at_call 112; (with_reducible refine (HJ.out w8 _ _ (HB.out.at_.below D B8.out)).mono ?_); rintro e w9 ⟨X9, hR9, hS9, A9, c9, cs9, rfl, hp9⟩; (have P9 := Lib.hid (show FtP D w X G h (z :: s3) (.slice A9 (q1 + 1) c9) cs9 w9 X9 sj from ⟨hR9, hS9, hp9⟩)); clear hR9 hS9 hp9))
              go_roundw
              case rel => exact ⟨z :: s3, _, X9, sj, k', FN.out _ _ _ _ P9.out⟩
              case measure => exact Hlt.out
          · have hsm' : Tr.small x = false := by simpa using hsm
            rw [hsm'] at hxs
            have HSm := Lib.hid (fun u => issmall_any qx u false hxs)
            dsimp only [pcv] at HSm
            have HSp := Lib.hid (fun (u : World) (hu : Below wr.heap.size wr u) => ft_split D HB.out HG.out HM.out (.inr ⟨x, r, rfl, hsm'⟩) hu)
            clear hB hM h1 HF hh hq hmq hqx hxs hown hsm hsm'
            go_wp2_with (first
              | ((with_reducible show wpList _ _ _ (⟨some 64, Op.load 160 _, _, _, _, _⟩ :: _) _ _); refine wpList_load_midg rfl 160 _ rfl g7 ((M - 1) * 14) rfl [.int .i64 qx.k, .int .i64 qx.e.k, .int .i64 qx.e.p.1, .int .i64 qx.e.p.2.1, .int .i64 qx.e.p.2.2, .int .i64 qx.e.g, .int .i64 qx.b.k.1, .int .i64 qx.b.k.2.1, .int .i64 qx.b.k.2.2, .int .i64 qx.b.h, .int .i64 qx.b.f, .int .i64 qx.b.t, .bool qx.fr, .slice qx.A qx.n qx.c] d0 rg7 hd0 hd1 part_size ?_)
              | (go_at_call 111; (with_reducible refine (HSm.out wr).mono ?_); rintro e w8 ⟨rfl, hb8⟩; (have B8 := Lib.hid hb8); clear hb8)
              | (go_at_call 113; (with_reducible refine (HSp.out _ (B8.out)).mono ?_); rintro e w9 ⟨A9, n9, c9, rfl, hp9⟩; (have P9 := Lib.hid hp9); clear hp9))
            go_returns
            exact P9.out
theorem fit_is : ∀ (h : Nat), h ≤ 1000000 → FitC D h
  | 0, hh => fit_any D 0 hh fun k e => by cases e
  | h + 1, hh => fit_any D (h + 1) hh fun k e => by
    injection e with e
    subst e
    exact fit_is h (by omega)
end
end Go.Proofs.Ytlcchefiicalpaa
