/- The program's edited: where its loop stands. -/
import Derived.Test.YtlcchefiicalpaaZwbj
import Derived.Test.YtlcchefiicalpaaZwca
import Derived.Test.YtlcchefiicalpaaZwcb
import Derived.Test.YtlcchefiicalpaaZwcc
namespace Go.Proofs.Ytlcchefiicalpaa
open Go.RowKit
theorem prs_old {u u' : World} {h : Nat} {bs : List Tr.Br} {cs : List Tr.PC} (hp : PRs u (h + 1) (bs.map (Tr.old (h := h))) cs) : PRs u' (h + 1) (bs.map (Tr.old (h := h))) cs := ⟨hp.1, fun i p q h1 h2 => by
  have h3 := hp.2 i p q h1 h2
  rw [List.getElem?_map] at h1
  obtain ⟨b, -, rfl⟩ := Option.map_eq_some_iff.1 h1
  exact h3⟩
theorem po_pq {X : Nat → Prop} {w : World} {B h : Nat} {bs : List Tr.Br} {v : Value} (hp : PO X w B (h + 1) (bs.map (Tr.old (h := h))) v) : ∃ cs, PQ X w B (h + 1) (bs.map (Tr.old (h := h))) v cs := by
  obtain ⟨cs, h1, h2, h3⟩ := hp
  exact ⟨cs, h1, h2, fun u _ => prs_old h3.now⟩
/-- A part stored into a row. -/
theorem PQ.put {X : Nat → Prop} {w : World} {B h g n c i : Nat} {l : List (Tr.Pt h)} {cs : List Tr.PC} (hp : PQ X w B h l (.slice (some ⟨g, 0, none⟩) n c) cs) (hi : i < l.length) {p : Tr.Pt h} {x : Tr.PC} (hx : Fast (fun b => X b ∨ b = g) w fun u => PR u h p x) : PQ X (w.setCells g (i * 14) (pc1 x)) B h (l.set i p) (.slice (some ⟨g, 0, none⟩) n c) (cs.set i x) := by
  have hn : n = l.length := by
    obtain ⟨A, c', e⟩ := hp.form
    injection e
  have hcl := hp.len
  have hC : Chg (fun b => X b ∨ b = g) w (w.setCells g (i * 14) (pc1 x)) := chg_setCells (.inl (.inr rfl)) _ _ _ (Chg.refl _ _)
  have h0 : w.ownsRow B 160 14 (.slice (some ⟨g, 0, none⟩) n c) n (pcs cs) := hn ▸ hp.own
  refine ⟨?_, fun k hk => ⟨(hp.far k hk).1, Nat.lt_of_lt_of_le (hp.far k hk).2 hC.size⟩, fun u q => ?_⟩
  · rw [List.length_set, ← hn]
    exact own_part h0 (by rw [hcl]; exact hi) x
  · have q1 : Chg (fun b => X b ∨ b = g) w u := ⟨q.os.trans hC.os, q.tape.trans hC.tape, q.output.trans hC.output, Nat.le_trans hC.size q.size, fun j hj hn => (q.block j (Nat.lt_of_lt_of_le hj hC.size) fun e => hn (e.imp id fun e => by injection e with e; exact e.symm)).trans (hC.block j hj hn)⟩
    have q2 : Chg (fun b => X b ∨ (Value.slice (some ⟨g, 0, none⟩) n c).ownBlock = some b) w u := q1.mono fun b hb => hb.imp id fun e => by subst e; rfl
    exact (hp.are u q2).set i (hx u q1)
namespace Tr
/-- What the children make, some of them done. -/
def edCat {σ : Type} {h : Nat} (done : List (Pt (h + 1))) (c : Bool) (r : Res σ (List (Pt (h + 1)) × Bool)) : Res σ (List (Pt (h + 1)) × Bool) := match r with
  | (st, .error e) => (st, .error e)
  | (st, .ok (l, d)) => (st, .ok (done ++ l, c || d))
theorem edCat_none {σ : Type} {h : Nat} {ed : σ → Br → List Ed → Res σ (List (Pt h) × Bool)} {b : Br} {bs : List Br} {st : σ} {eds : List Ed} {done : List (Pt (h + 1))} {c : Bool} (h0 : cnt eds b.t = 0) : edCat done c (edKids ed (b :: bs) st eds) = edCat (done ++ [old b]) c (edKids ed bs st eds) := by
  conv => lhs; unfold edKids
  rw [if_pos h0]
  rcases h1 : edKids ed bs st eds with ⟨s1, er | ⟨l, d⟩⟩
  · rfl
  · simp [edCat]
theorem edCat_err {σ : Type} {h : Nat} {ed : σ → Br → List Ed → Res σ (List (Pt h) × Bool)} {b : Br} {bs : List Br} {st s2 : σ} {eds : List Ed} {done : List (Pt (h + 1))} {c : Bool} {k : Nat} {er : Int} (hk : cnt eds b.t = k) (h0 : 0 < k) (he : ed st b (eds.take k) = (s2, .error er)) : edCat done c (edKids ed (b :: bs) st eds) = (s2, .error er) := by
  conv => lhs; unfold edKids
  rw [if_neg (by omega), hk, he]
  rfl
theorem edCat_more {σ : Type} {h : Nat} {ed : σ → Br → List Ed → Res σ (List (Pt h) × Bool)} {b : Br} {bs : List Br} {st s2 : σ} {eds : List Ed} {done : List (Pt (h + 1))} {c is : Bool} {k : Nat} {below : List (Pt h)} (hk : cnt eds b.t = k) (h0 : 0 < k) (he : ed st b (eds.take k) = (s2, .ok (below, is))) : edCat done c (edKids ed (b :: bs) st eds) = edCat (done ++ [if is then frs below else old b]) (c || is) (edKids ed bs s2 (eds.drop k)) := by
  conv => lhs; unfold edKids
  rw [if_neg (by omega), hk, he]
  dsimp only
  rcases h1 : edKids ed bs s2 (eds.drop k) with ⟨s1, er | ⟨l, d⟩⟩
  · rfl
  · simp [edCat, Bool.or_assoc]
theorem edCat_end {σ : Type} {h : Nat} {ed : σ → Br → List Ed → Res σ (List (Pt h) × Bool)} {st : σ} {eds : List Ed} {done : List (Pt (h + 1))} {c : Bool} : edCat done c (edKids ed [] st eds) = (st, .ok (done, c)) := by
  simp [edKids, edCat]
theorem ascE_drop {l : List Ed} (h : AscE l) (k : Nat) : AscE (l.drop k) := fun i j hij hj => by
  rw [List.length_drop] at hj
  have := h (k + i) (k + j) (by omega) (by omega)
  unfold kE at this ⊢
  rw [List.getD_eq_getElem?_getD, List.getD_eq_getElem?_getD, List.getElem?_drop, List.getElem?_drop]
  rw [List.getD_eq_getElem?_getD, List.getD_eq_getElem?_getD] at this
  exact this
theorem ascE_take {l : List Ed} (h : AscE l) (k : Nat) : AscE (l.take k) := fun i j hij hj => by
  rw [List.length_take] at hj
  have := h i j hij (by omega)
  unfold kE at this ⊢
  rw [List.getD_eq_getElem?_getD, List.getD_eq_getElem?_getD, List.getElem?_take, List.getElem?_take, if_pos (by omega), if_pos (by omega)]
  rw [List.getD_eq_getElem?_getD, List.getD_eq_getElem?_getD] at this
  exact this
end Tr
/-- Edits that may be read whatever becomes of the store. -/
def EdX (X : Nat → Prop) (w : World) (A : Option Addr) (c n : Nat) (l : List Tr.Ed) : Prop := Fast X w fun u => SlC u u.heap.size A c n (edcs l)
theorem edx_sub {w : World} {B : Nat} {A : Option Addr} {c n : Nat} {l : List Tr.Ed} (h : SlC w B A c n (edcs l)) (hn : l.length = n) {i j : Nat} (hij : i ≤ j) (hj : j ≤ n) : SlC w B (cutW A c i 6) (c - i) (j - i) (edcs ((l.drop i).take (j - i))) := by
  refine ⟨by have := h.le; omega, fun e => ?_, ?_⟩
  · unfold cutW at e
    split at e
    · omega
    · cases A with
      | none => have := h.nil rfl; omega
      | some a => cases e
  · rw [edcs_take, edcs_drop]
    have h1 := h.sl.fromW (cap := c) (k := i) (size := 6) (by rw [edcs_len, hn]; exact Nat.mul_le_mul_right _ h.le)
    exact h1.to _
theorem cutW_zero (A : Option Addr) (c size : Nat) (h : A = none → c = 0) : cutW A c 0 size = A := by
  unfold cutW
  split
  · rfl
  · cases A with
    | none => rfl
    | some a => simp [Addr.add]
theorem EdX.take {X : Nat → Prop} {w : World} {A : Option Addr} {c n k : Nat} {l : List Tr.Ed} (h : EdX X w A c n l) (hn : l.length = n) (hk : k ≤ n) : EdX X w A c k (l.take k) := fun u q => by
  have h1 := h u q
  have := edx_sub h1 hn (i := 0) (j := k) (Nat.zero_le _) hk
  rw [cutW_zero _ _ _ h1.nil, Nat.sub_zero, Nat.sub_zero, List.drop_zero] at this
  exact this
theorem EdX.drop {X : Nat → Prop} {w : World} {A : Option Addr} {c n k : Nat} {l : List Tr.Ed} (h : EdX X w A c n l) (hn : l.length = n) (hk : k ≤ n) : EdX X w (cutW A c k 6) (c - k) (n - k) (l.drop k) := fun u q => by
  have := edx_sub (h u q) hn (i := k) (j := n) hk (Nat.le_refl _)
  rwa [List.take_of_length_le (by rw [List.length_drop, hn]; exact Nat.le_refl _)] at this
section
variable {σ : Type} (D : StoI σ)
/-- What edited answers: the parts and whether anything has changed, or an error. -/
def EdR (w : World) (X : Nat → Prop) (h : Nat) (st' : σ) (r : Except Int (List (Tr.Pt h) × Bool)) (e : Ending) (w' : World) : Prop := StR σ D.Rep w X st' (fun w' X' => match r with
    | .error er => er ≠ 0 ∧ ∃ bl, e = .returned (.tuple #[.slice none 0 0, .bool bl, .int .i64 er])
    | .ok (l, c) => ∃ A k, e = .returned (.tuple #[.slice A l.length k, .bool c, .int .i64 0]) ∧ PLX (fun b => X' b ∨ b < w.heap.size) w' h l A k) w'
def EdtC (h : Nat) : Prop := ∀ {w : World} {X : Nat → Prop} {st : σ} {b : Tr.Br} {eds : List Tr.Ed} {A : Option Addr} {c n : Nat}, D.Rep w X st → b.h.toNat = h ∧ Tr.KR b.k → EdX X w A c n eds → eds.length = n → n ≤ 100000 → Tr.AscE eds →
  Calls Try.prog 87 #[D.val, Tr.brV b, .slice A n c] w (EdR D w X h (Tr.edited D.S h st b eds).1 (Tr.edited D.S h st b eds).2)
/-- Where the loop over the children stands. -/
structure EdI (W0 : World) (X : Nat → Prop) (h : Nat) (bb : Nat) (C : Array Value) (bs : List Tr.Br) (st1 : σ) (eds : List Tr.Ed) (N g ca : Nat) (i : Nat) (done : List (Tr.Pt (h + 1))) (rest : List Tr.Br) (er : List Tr.Ed) (c : Bool) (cs : List Tr.PC) (A : Option Addr) (ce m : Nat) (wr : World) (Xr : Nat → Prop) (sr : σ) : Prop where
  rep : D.Rep wr Xr sr
  stp : Stp W0 X wr Xr
  row : PQ (fun b => Xr b ∨ b < W0.heap.size) wr W0.heap.size (h + 1) (done ++ rest.map Tr.old) (.slice (some ⟨g, 0, none⟩) N ca) cs
  eq : Tr.edKids (Tr.edited D.S h) bs st1 eds = Tr.edCat done c (Tr.edKids (Tr.edited D.S h) rest sr er)
  edx : EdX X W0 A ce m er
  asc : Tr.AscE er
  len : er.length = m
  few : m ≤ 100000
  hts : ∀ b ∈ rest, b.h.toNat = h ∧ Tr.KR b.k
  at_ : done.length = i
  all : i + rest.length = N
  far : ¬ Xr bb
  blk : Blk wr bb 137 C
section
variable {W0 : World} {X : Nat → Prop} {h bb : Nat} {C : Array Value} {bs : List Tr.Br} {st1 : σ} {eds : List Tr.Ed} {N g ca i : Nat} {done : List (Tr.Pt (h + 1))} {rest : List Tr.Br} {er : List Tr.Ed} {c : Bool} {cs : List Tr.PC} {A : Option Addr} {ce m : Nat} {wr : World} {Xr : Nat → Prop} {sr : σ}
theorem EdI.at {b : Tr.Br} {rest' : List Tr.Br} (hI : EdI D W0 X h bb C bs st1 eds N g ca i done (b :: rest') er c cs A ce m wr Xr sr) : ∃ x, cs[i]? = some x ∧ x = ⟨b.f, Tr.z, b, false, none, 0, 0⟩ := by
  have hl := hI.row.len
  rw [List.length_append, hI.at_] at hl
  have hi : i < cs.length := by rw [hl]; simp
  refine ⟨_, List.getElem?_eq_getElem hi, ?_⟩
  have := hI.row.are.now.2 i (Tr.old b) _ (by rw [List.getElem?_append_right (by rw [hI.at_]; exact Nat.le_refl _), hI.at_, Nat.sub_self]; rfl) (List.getElem?_eq_getElem hi)
  exact this
theorem EdI.skip {b : Tr.Br} {rest' : List Tr.Br} (hI : EdI D W0 X h bb C bs st1 eds N g ca i done (b :: rest') er c cs A ce m wr Xr sr) (h0 : Tr.cnt er b.t = 0) {u : World} (hu : Below wr.heap.size wr u) : EdI D W0 X h bb C bs st1 eds N g ca (i + 1) (done ++ [Tr.old b]) rest' er c cs A ce m u Xr sr :=
  ⟨D.below hI.rep hu, hI.stp.below hu, by
    have := hI.row.below hu
    rw [List.append_assoc]
    exact this, hI.eq.trans (Tr.edCat_none h0), hI.edx, hI.asc, hI.len, hI.few, fun x hx => hI.hts x (List.mem_cons_of_mem _ hx), by rw [List.length_append, hI.at_]; rfl, by have := hI.all; rw [List.length_cons] at this; omega, hI.far, hI.blk.keep (hu.block bb hI.blk.lt)⟩
/-- Behind the call for one child. -/
theorem EdI.back {b : Tr.Br} {rest' : List Tr.Br} (hI : EdI D W0 X h bb C bs st1 eds N g ca i done (b :: rest') er c cs A ce m wr Xr sr) {k : Nat} (hk : Tr.cnt er b.t = k) (h0 : 0 < k) {s5 : σ} {below : List (Tr.Pt h)} (he : Tr.edited D.S h sr b (er.take k) = (s5, .ok (below, false))) {u u5 : World} {X5 : Nat → Prop} (hu : Below wr.heap.size wr u) (h5 : Stp u Xr u5 X5) (hr : D.Rep u5 X5 s5) : EdI D W0 X h bb C bs st1 eds N g ca (i + 1) (done ++ [Tr.old b]) rest' (er.drop k) c cs (cutW A ce k 6) (ce - k) (m - k) u5 X5 s5 := by
  have hkm : k ≤ m := by rw [← hk, ← hI.len]; exact Tr.cnt_le _ _
  have hs : Stp wr Xr u5 X5 := (Stp.of_below Xr hu).trans h5
  refine ⟨hr, hI.stp.trans hs, by
    have := hI.row.step (hs.with fun b => b < W0.heap.size)
    rw [List.append_assoc]
    exact this, hI.eq.trans ?_, hI.edx.drop hI.len hkm, Tr.ascE_drop hI.asc k, by rw [List.length_drop, hI.len], by have := hI.few; omega, fun x hx => hI.hts x (List.mem_cons_of_mem _ hx), by rw [List.length_append, hI.at_]; rfl, by have := hI.all; rw [List.length_cons] at this; omega, hs.far hI.blk.lt hI.far, hI.blk.keep (hs.chg.block bb hI.blk.lt hI.far)⟩
  have e := Tr.edCat_more (ed := Tr.edited D.S h) (b := b) (bs := rest') (done := done) (c := c) hk h0 he
  rw [if_neg (by decide), Bool.or_false] at e
  exact e
/-- Behind the store of one child. -/
theorem EdI.stored {b : Tr.Br} {rest' : List Tr.Br} (hI : EdI D W0 X h bb C bs st1 eds N g ca i done (b :: rest') er c cs A ce m wr Xr sr) {k : Nat} (hk : Tr.cnt er b.t = k) (h0 : 0 < k) {s5 : σ} {below : List (Tr.Pt h)} (he : Tr.edited D.S h sr b (er.take k) = (s5, .ok (below, true))) {u u5 u6 : World} {X5 : Nat → Prop} (hu : Below wr.heap.size wr u) (h5 : Stp u Xr u5 X5) (hr : D.Rep u5 X5 s5) (h6 : Below u5.heap.size u5 u6) {B5 : Option Addr} {c5 n5 : Nat} (hp : PLX (fun b => X5 b ∨ b < u.heap.size) u5 h below B5 c5) (hn5 : below.length = n5) {K : Int} (hK : K = Tr.keyP (h + 1) (Tr.frs below)) :
    EdI D W0 X h bb C bs st1 eds N g ca (i + 1) (done ++ [Tr.frs below]) rest' (er.drop k) true (cs.set i ⟨K, Tr.z, Tr.bz, true, B5, n5, c5⟩) (cutW A ce k 6) (ce - k) (m - k) (u6.setCells g (i * 14) (pc1 ⟨K, Tr.z, Tr.bz, true, B5, n5, c5⟩)) X5 s5 := by
  have hkm : k ≤ m := by rw [← hk, ← hI.len]; exact Tr.cnt_le _ _
  have hs : Stp wr Xr u6 X5 := ((Stp.of_below Xr hu).trans h5).below h6
  have hrow := hI.row.step (hs.with fun b => b < W0.heap.size)
  have hg := hI.row.own.lt g rfl
  have hgX := (hrow.far g rfl).1
  have hr6 := D.below hr h6
  have hl : (done ++ (b :: rest').map (Tr.old (h := h))).length = N := by rw [List.length_append, hI.at_, List.length_map, hI.all]
  have hput := hrow.put (i := i) (p := Tr.frs below) (x := ⟨K, Tr.z, Tr.bz, true, B5, n5, c5⟩) (by rw [hl]; have := hI.all; rw [List.length_cons] at this; omega) (fun v q => by
    have h1 : PL v h below B5 c5 := hp v (((Stp.of_below (fun b => X5 b ∨ b < u.heap.size) h6)).on (q.mono fun b hb => by
      rcases hb with (hb | hb) | hb
      · exact .inl hb
      · exact .inr (Nat.lt_of_lt_of_le hb (Nat.le_trans hI.stp.chg.size hu.size))
      · exact .inr (by subst hb; exact Nat.lt_of_lt_of_le hg.2 hu.size)))
    have := PR.fresh h1
    rw [← hK, hn5] at this
    exact this)
  have hC : Chg (fun b => b = g) u6 (u6.setCells g (i * 14) (pc1 ⟨K, Tr.z, Tr.bz, true, B5, n5, c5⟩)) := chg_setCells (F := fun b => b = g) (.inl rfl) _ _ _ (Chg.refl _ _)
  obtain ⟨e1, e2⟩ := D.end_ hr6 (hI.stp.trans hs) hC fun b hb => ⟨by subst hb; exact hg.1, fun hx => by subst hb; exact hgX (.inl hx)⟩
  have hbg : bb ≠ g := fun e => by
    obtain ⟨cur, hcur⟩ : ∃ cur, Blk wr g 160 cur := by
      rcases hI.row.own.2 with ⟨e0, -⟩ | ⟨g', cap, cur, e0, -, hh, -⟩
      · cases e0
      · injection e0 with e0
        injection e0 with e0
        injection e0 with e0
        subst e0
        exact ⟨cur, hh⟩
    exact (Blk.ne_ hI.blk hcur (by decide)) e
  refine ⟨e1, e2, ?_, hI.eq.trans ?_, hI.edx.drop hI.len hkm, Tr.ascE_drop hI.asc k, by rw [List.length_drop, hI.len], by have := hI.few; omega, fun x hx => hI.hts x (List.mem_cons_of_mem _ hx), by rw [List.length_append, hI.at_]; rfl, by have := hI.all; rw [List.length_cons] at this; omega, hs.far hI.blk.lt hI.far, hI.blk.keep ((hC.block bb (Nat.lt_of_lt_of_le hI.blk.lt hs.chg.size) hbg).trans (hs.chg.block bb hI.blk.lt hI.far))⟩
  · have e : (done ++ (b :: rest').map (Tr.old (h := h))).set i (Tr.frs below) = (done ++ [Tr.frs below]) ++ rest'.map Tr.old := by
      rw [List.set_append_right _ _ (by rw [hI.at_]; exact Nat.le_refl _), hI.at_, Nat.sub_self, List.append_assoc]
      rfl
    rw [← e]
    exact hput
  · have e := Tr.edCat_more (ed := Tr.edited D.S h) (b := b) (bs := rest') (done := done) (c := c) hk h0 he
    rw [if_pos rfl, Bool.or_true] at e
    exact e
theorem EdI.over (hI : EdI D W0 X h bb C bs st1 eds N g ca i done [] er c cs A ce m wr Xr sr) : Tr.edKids (Tr.edited D.S h) bs st1 eds = (sr, .ok (done, c)) ∧ PLX (fun b => Xr b ∨ b < W0.heap.size) wr (h + 1) done (some ⟨g, 0, none⟩) ca ∧ done.length = N := by
  refine ⟨hI.eq.trans Tr.edCat_end, ?_, by have := hI.all; have := hI.at_; simp at *; omega⟩
  have := hI.row
  rw [List.map_nil, List.append_nil] at this
  exact this.plx
end
end
theorem plx_E {X : Nat → Prop} {w : World} {l : List Tr.E} {A : Option Addr} {c : Nat} (h : PLX X w 0 l A c) : Fast X w fun u => SlC u u.heap.size A c l.length (pcs (l.map pcE)) := fun u q => by
  obtain ⟨cs, h1, h2⟩ := h u q
  have e : cs = l.map pcE := by
    have hl : cs.length = l.length := h2.1
    refine List.ext_getElem? fun i => ?_
    rcases Nat.lt_or_ge i l.length with hi | hi
    · have hp : l[i]? = some l[i] := List.getElem?_eq_getElem hi
      have hq : cs[i]? = some (cs[i]'(by omega)) := List.getElem?_eq_getElem (by omega)
      have e3 : cs[i]'(by omega) = pcE l[i] := h2.2 i _ _ hp hq
      rw [hq, List.getElem?_map, hp, e3]
      rfl
    · rw [List.getElem?_eq_none (by omega), List.getElem?_eq_none (by rw [List.length_map]; exact hi)]
  rw [← e]
  exact h1
theorem mapE (l : List Tr.E) : (l.map pcE).map (·.e) = l := by rw [List.map_map]; exact List.map_id l
end Go.Proofs.Ytlcchefiicalpaa
