/- The statements' awake and SharesAdds under the contracts. Map and counts beside foreign blocks; runs of three blocks each. The statements' Same under the contracts. What SharesBack wants of the state (plain), and the statements' list. Numbers in groups of seven bits: writing and reading them, as plain mathematics. Nodes of the tree and their bytes (plain Lean, no program). What nodes' bytes say: read back, cut short, with one byte more (plain Lean, no program). -/
import Derived.Test.YtaainefdjbmekaaSbbe
import Derived.Test.YtaainefdjbmekaaSbcd
namespace Go.Proofs.Ytaainefdjbmekaa
open Go.RowKit
namespace Sh
/-- What Take answers. -/
theorem take_some {F : List Bool} {k : Nat} (hk : 1 ≤ k) : (∃ a, Rn.take F (k : Int) = (a, true, Rn.setN F a false k) ∧ a + k ≤ F.length ∧ ∀ j, a ≤ j → j < a + k → F.getD j false = true) ∨ Rn.take F (k : Int) = (0, false, F) := by
  cases hf : (Rn.list F).find? fun r => decide (k ≤ r.2) with
  | none => exact .inr (Rn.take_none hk hf)
  | some r =>
    left
    have hr := List.mem_of_find?_eq_some hf
    have hkr : k ≤ r.2 := by have := List.find?_some hf; simpa using this
    obtain ⟨e1, e2⟩ := Rn.list_end F r hr
    have ht := Rn.list_true F r hr
    exact ⟨r.1, (Rn.take_back hk hf).1, by omega, fun j j1 j2 => ht j j1 (by omega)⟩
/-- Taken, but not known yet; then known. -/
theorem StOk.taken {F : List Bool} {now was : List U} (h : StOk F now was) {a k : Nat} (hk : 1 ≤ k) (hf : a + k ≤ F.length) (hfree : ∀ j, a ≤ j → j < a + k → F.getD j false = true) :
    StOk (Rn.setN F a false k) now was ∧ Sh.add now (a : Int) (k : Int) = (true, ins now a k) ∧ StOk (Rn.setN F a false k) (ins now a k) was := by
  have hat := fun j => Rn.setN_at F a false j k hf
  have hl := Rn.setN_len F a false k
  obtain ⟨h1, h2⟩ := h.add hk hl hf hfree hat
  refine ⟨⟨fun u hu => ?_, h.apart, h.apart2, h.old⟩, h1, h2⟩
  obtain ⟨k1, k2, k3⟩ := h.held u hu
  refine ⟨k1, by omega, fun j j1 j2 => ?_⟩
  rw [hat]
  split
  · rfl
  · exact k3 j j1 j2
end Sh
theorem shst_taken {F : List Bool} {now was : List Sh.U} (h : ShSt F now was) {a k : Nat} (hk : 1 ≤ k) (hf : a + k ≤ F.length) (hF : F.length ≤ 10000) (hn : now.length < 100000) (hfree : ∀ j, a ≤ j → j < a + k → F.getD j false = true) :
    ShSt (Rn.setN F a false k) now was ∧ Sh.add now (a : Int) (k : Int) = (true, Sh.ins now a k) ∧ ShSt (Rn.setN F a false k) (Sh.ins now a k) was := by
  obtain ⟨h1, h2, h3⟩ := h.ok.taken hk hf hfree
  refine ⟨⟨h1, h.few, h.few2⟩, h2, ⟨h3, ⟨by rw [Sh.ins_len]; omega, fun u hu => ?_⟩, h.few2⟩⟩
  unfold Sh.ins at hu
  rw [List.mem_append, List.mem_append, List.mem_singleton] at hu
  rcases hu with (hu | hu) | hu
  · exact h.few.2 u (List.mem_of_mem_take hu)
  · rw [hu]; exact ⟨by show a ≤ _; omega, by show k ≤ _; omega, by show 1 ≤ 1000000000; decide⟩
  · exact h.few.2 u (List.mem_of_mem_drop hu)
theorem shst_start (F : List Bool) : ShSt F [] [] := ⟨Sh.StOk.start F, ⟨by decide, by simp⟩, ⟨by decide, by simp⟩⟩
theorem i64_nat {n : Nat} (h : n ≤ 1000000) : I64 (n : Int) := by unfold I64; omega
end Go.Proofs.Ytaainefdjbmekaa
namespace Go.Proofs.Ytaainefdjbmekaa
open Go.RowKit
namespace Sh
theorem free_giveAll : ∀ {l : List U} {F : List Bool}, Held F l → Rn.freeN (giveAll F l) = Rn.freeN F + blocks l
  | [], F, _ => rfl
  | u :: l, F, h => by
    obtain ⟨h1, h2, h3⟩ := h.1 u (List.mem_cons_self ..)
    obtain ⟨p1, p2⟩ := List.pairwise_cons.1 h.2
    have hg := give_run h1 h2 h3
    have hat := fun j => Rn.setN_at F u.1 true j u.2.1 h2
    have hl := Rn.setN_len F u.1 true u.2.1
    have hstep : giveAll F (u :: l) = giveAll (Rn.setN F u.1 true u.2.1) l := by
      unfold giveAll
      rw [List.foldl_cons, hg]
    have hf := Rn.freeN_setN (F := F) (a := u.1) (b := true) u.2.1 h2 (fun k hk => by rw [h3 _ (by omega) (by omega)]; rfl)
    rw [if_pos rfl] at hf
    rw [hstep, free_giveAll (l := l) (F := Rn.setN F u.1 true u.2.1) ⟨fun v hv => by
      obtain ⟨k1, k2, k3⟩ := h.1 v (List.mem_cons_of_mem _ hv)
      have := p1 v hv
      exact ⟨k1, by omega, fun j j1 j2 => by rw [hat, if_neg (by omega)]; exact k3 j j1 j2⟩, p2⟩, hf]
    unfold blocks
    rw [List.map_cons, List.sum_cons]
    omega
/-- How many are zero. -/
def zeros (ms : List Nat) : Nat := ms.countP (· == 0)
end Sh
end Go.Proofs.Ytaainefdjbmekaa
namespace Go.Proofs.Ytaainefdjbmekaa
open Go.RowKit
/-- The cells of a row of runs. -/
def RunCells (w : World) (A : Option Addr) (L : List (Nat × Nat)) : Prop := ∀ k, k < L.length → ∃ gl, A = some ⟨gl, 0, none⟩ ∧ gl < w.heap.size ∧ w.cell? ⟨gl, k * 2, none⟩ = some (.int .i64 ((L.getD k (0, 0)).1 : Int)) ∧ w.cell? ⟨gl, k * 2 + 1, none⟩ = some (.int .i64 ((L.getD k (0, 0)).2 : Int))
theorem RunCells.below {w w' : World} {A : Option Addr} {L : List (Nat × Nat)} (h : RunCells w A L) (hb : Below w.heap.size w w') : RunCells w' A L := fun k hk => by
  obtain ⟨gl, e, h1, h2, h3⟩ := h k hk
  exact ⟨gl, e, Nat.lt_of_lt_of_le h1 hb.size, by rw [World.cell?_of_block (hb.block gl h1)]; exact h2, by rw [World.cell?_of_block (hb.block gl h1)]; exact h3⟩
end Go.Proofs.Ytaainefdjbmekaa
namespace Go.Proofs.Ytaainefdjbmekaa
open Go.RowKit
namespace Sh
theorem mem_ins {l : List U} {a n : Nat} (u : U) : u ∈ ins l a n ↔ u ∈ l ∨ u = (a, n, 1) := by
  unfold ins
  rw [List.mem_append, List.mem_append, List.mem_singleton]
  constructor
  · rintro ((hu | hu) | hu)
    · exact .inl (List.mem_of_mem_take hu)
    · exact .inr hu
    · exact .inl (List.mem_of_mem_drop hu)
  · rintro (hu | hu)
    · rw [← List.take_append_drop (below l a) l, List.mem_append] at hu
      rcases hu with hu | hu
      · exact .inl (.inl hu)
      · exact .inr hu
    · exact .inl (.inr hu)
theorem mem_news {l was : List U} {u : U} : u ∈ news l was ↔ u ∈ l ∧ ∀ o ∈ was, o.1 ≠ u.1 := by
  unfold news
  rw [List.mem_filter]
  refine and_congr_right fun _ => ?_
  constructor
  · intro h o ho e
    have : (was.any fun o => decide (o.1 = u.1)) = true := List.any_eq_true.2 ⟨o, ho, by simp [e]⟩
    rw [this] at h
    cases h
  · intro h
    cases hb : was.any fun o => decide (o.1 = u.1) with
    | false => rfl
    | true =>
      obtain ⟨o, ho, e⟩ := List.any_eq_true.1 hb
      exact absurd (by simpa using e) (h o ho)
/-- Given back, what was added since, all is as it was. -/
theorem back_taken {F F0 : List Bool} {now was : List U} (h : StOk F now was) (hj : giveAll F (news now was) = F0) {a k : Nat} (hk : 1 ≤ k) (hf : a + k ≤ F.length) (hfree : ∀ j, a ≤ j → j < a + k → F.getD j false = true) :
    giveAll (Rn.setN F a false k) (news (ins now a k) was) = F0 := by
  obtain ⟨t1, t2, t3⟩ := h.taken hk hf hfree
  have hat := fun j => Rn.setN_at F a false j k hf
  have hl := Rn.setN_len F a false k
  obtain ⟨g1, g2⟩ := giveAll_at (h.heldL (l := news now was) List.filter_sublist)
  obtain ⟨k1, k2⟩ := giveAll_at (t3.heldL (l := news (ins now a k) was) List.filter_sublist)
  have hwa : ∀ o ∈ was, o.1 ≠ a := fun o ho e => by
    obtain ⟨m, hm⟩ := h.old o ho
    obtain ⟨p1, p2, p3⟩ := h.held _ hm
    dsimp only at p1 p2 p3
    have q1 := p3 a (by omega) (by omega)
    have q2 := hfree a (Nat.le_refl a) (by omega)
    rw [q1] at q2
    cases q2
  have hdis : ∀ u ∈ now, ∀ j, u.1 ≤ j → j < u.1 + u.2.1 → ¬ (a ≤ j ∧ j < a + k) := fun u hu j j1 j2 hj => by
    have q1 := (h.held u hu).2.2 j j1 j2
    have q2 := hfree j hj.1 hj.2
    rw [q1] at q2
    cases q2
  rw [← hj]
  refine Rn.ext (by rw [k1, g1, hl]) fun j _ => ?_
  by_cases ha : a ≤ j ∧ j < a + k
  · rw [(k2 j).1 ⟨(a, k, 1), mem_news.2 ⟨(mem_ins _).2 (.inr rfl), hwa⟩, ha.1, ha.2⟩]
    rw [(g2 j).2 fun ⟨u, hu, u1, u2⟩ => hdis u (mem_news.1 hu).1 j u1 u2 ha]
    exact (hfree j ha.1 ha.2).symm
  · by_cases hn : ∃ u ∈ news now was, u.1 ≤ j ∧ j < u.1 + u.2.1
    · obtain ⟨u, hu, u1, u2⟩ := hn
      rw [(g2 j).1 ⟨u, hu, u1, u2⟩]
      exact (k2 j).1 ⟨u, mem_news.2 ⟨(mem_ins u).2 (.inl (mem_news.1 hu).1), (mem_news.1 hu).2⟩, u1, u2⟩
    · rw [(g2 j).2 hn, (k2 j).2 fun ⟨u, hu, u1, u2⟩ => ?_, hat, if_neg ha]
      obtain ⟨m1, m2⟩ := mem_news.1 hu
      rcases (mem_ins u).1 m1 with m1 | rfl
      · exact hn ⟨u, mem_news.2 ⟨m1, m2⟩, u1, u2⟩
      · exact ha ⟨u1, u2⟩
/-- Uses do not matter for what is given back. -/
theorem giveAll_runs : ∀ {l l' : List U} {F : List Bool}, l'.map (fun u => (u.1, u.2.1)) = l.map (fun u => (u.1, u.2.1)) → giveAll F l' = giveAll F l
  | [], [], _, _ => rfl
  | [], _ :: _, _, h => by simp at h
  | _ :: _, [], _, h => by simp at h
  | u :: l, u' :: l', F, h => by
    rw [List.map_cons, List.map_cons] at h
    injection h with h1 h2
    injection h1 with e1 e2
    unfold giveAll
    rw [List.foldl_cons, List.foldl_cons, e1, e2]
    exact giveAll_runs h2
theorem news_runs {l l' was : List U} (h : l'.map (fun u => (u.1, u.2.1)) = l.map (fun u => (u.1, u.2.1))) : (news l' was).map (fun u => (u.1, u.2.1)) = (news l was).map (fun u => (u.1, u.2.1)) := by
  have key : ∀ l : List U, (news l was).map (fun u => (u.1, u.2.1)) = (l.map fun u => (u.1, u.2.1)).filter fun r => !was.any fun o => decide (o.1 = r.1) := fun l => by
    unfold news
    rw [List.filter_map]
    rfl
  rw [key, key, h]
theorem back_change {F F0 : List Bool} {now was : List U} (hj : giveAll F (news now was) = F0) (a : Int) (more : Bool) : giveAll F (news (change now a more).2 was) = F0 := by
  rw [giveAll_runs (news_runs (change_runs now a more)), hj]
end Sh
end Go.Proofs.Ytaainefdjbmekaa
namespace Go.Proofs.Ytaainefdjbmekaa.Vint
/-- The bytes of a number. -/
def vint (x : Nat) : List Nat := if x < 128 then [x] else (x % 128 + 128) :: vint (x / 128)
termination_by x
decreasing_by omega
theorem vint_low {x : Nat} (h : x < 128) : vint x = [x] := by rw [vint, if_pos h]
theorem vint_high {x : Nat} (h : 128 ≤ x) : vint x = (x % 128 + 128) :: vint (x / 128) := by rw [vint, if_neg (by omega)]
theorem vint_pos (x : Nat) : 0 < (vint x).length := by
  by_cases h : x < 128
  · rw [vint_low h]; simp
  · rw [vint_high (by omega)]; simp
theorem vint_len {x : Nat} (h : x < 268435456) : (vint x).length ≤ 4 := by
  by_cases h1 : x < 128
  · rw [vint_low h1]; simp
  rw [vint_high (by omega)]
  by_cases h2 : x / 128 < 128
  · rw [vint_low h2]; simp
  rw [vint_high (by omega)]
  by_cases h3 : x / 128 / 128 < 128
  · rw [vint_low h3]; simp
  rw [vint_high (by omega), vint_low (by omega)]
  simp
/-- Reading: k groups are read, x is their number; r groups may still come. Value, bytes, error (2 short, 4 form). -/
def numF : Nat → Nat → Nat → List Nat → Nat × Nat × Nat
  | 0, _, _, _ => (0, 0, 4)
  | _ + 1, _, _, [] => (0, 0, 2)
  | r + 1, k, x, d :: l =>
    if 128 ≤ d then numF r (k + 1) (x + d % 128 * 2 ^ (7 * k)) l
    else if d = 0 ∧ 0 < k then (0, 0, 4)
    else (x + d % 128 * 2 ^ (7 * k), k + 1, 0)
def num (l : List Nat) : Nat × Nat × Nat := numF 4 0 0 l
theorem numF_code : ∀ {r k x : Nat} {l : List Nat}, (numF r k x l).2.2 = 0 ∨ (numF r k x l).2.2 = 2 ∨ (numF r k x l).2.2 = 4
  | 0, _, _, _ => .inr (.inr rfl)
  | _ + 1, _, _, [] => .inr (.inl rfl)
  | r + 1, k, x, d :: l => by
    unfold numF
    by_cases h1 : 128 ≤ d
    · rw [if_pos h1]; exact numF_code
    · rw [if_neg h1]
      by_cases h2 : d = 0 ∧ 0 < k
      · rw [if_pos h2]; exact .inr (.inr rfl)
      · rw [if_neg h2]; exact .inl rfl
theorem numF_size : ∀ {r k x : Nat} {l : List Nat}, (numF r k x l).2.2 = 0 → k < (numF r k x l).2.1 ∧ (numF r k x l).2.1 ≤ k + l.length ∧ (numF r k x l).2.1 ≤ k + r
  | 0, _, _, _, h => by simp [numF] at h
  | _ + 1, _, _, [], h => by simp [numF] at h
  | r + 1, k, x, d :: l, h => by
    unfold numF at h ⊢
    by_cases h1 : 128 ≤ d
    · rw [if_pos h1] at h ⊢
      have := numF_size h
      simp
      omega
    · rw [if_neg h1] at h ⊢
      by_cases h2 : d = 0 ∧ 0 < k
      · rw [if_pos h2] at h; simp at h
      · rw [if_neg h2]; simp
theorem numF_lt : ∀ {r k x : Nat} {l : List Nat}, x < 2 ^ (7 * k) → (numF r k x l).1 < 2 ^ (7 * (k + r))
  | 0, k, x, _, h => Nat.pow_pos (by decide)
  | _ + 1, _, _, [], _ => Nat.pow_pos (by decide)
  | r + 1, k, x, d :: l, h => by
    have hp : 2 ^ (7 * (k + 1)) = 2 ^ (7 * k) * 128 := by rw [show 7 * (k + 1) = 7 * k + 7 by omega, Nat.pow_add]
    have hd : d % 128 < 128 := Nat.mod_lt _ (by decide)
    have hx : x + d % 128 * 2 ^ (7 * k) < 2 ^ (7 * (k + 1)) := by
      rw [hp]
      have : d % 128 * 2 ^ (7 * k) ≤ 127 * 2 ^ (7 * k) := Nat.mul_le_mul_right _ (by omega)
      omega
    unfold numF
    by_cases h1 : 128 ≤ d
    · rw [if_pos h1]
      have := numF_lt (r := r) (l := l) hx
      rwa [show k + 1 + r = k + (r + 1) by omega] at this
    · rw [if_neg h1]
      by_cases h2 : d = 0 ∧ 0 < k
      · rw [if_pos h2]; exact Nat.pow_pos (by decide)
      · rw [if_neg h2]
        exact Nat.lt_of_lt_of_le hx (Nat.pow_le_pow_right (by decide) (by omega))
theorem num_lt (l : List Nat) : (num l).1 < 268435456 := numF_lt (r := 4) (k := 0) (x := 0) (l := l) (by decide)
/-- What was written is read, whatever follows. -/
theorem numF_vint : ∀ {r k x y : Nat} (l : List Nat), y < 2 ^ (7 * r) → 0 < r → (0 < k → 0 < y) → numF r k x (vint y ++ l) = (x + y * 2 ^ (7 * k), k + (vint y).length, 0)
  | 0, _, _, _, _, _, h0, _ => absurd h0 (by decide)
  | r + 1, k, x, y, l, h, _, hk => by
    have hp : 2 ^ (7 * (r + 1)) = 2 ^ (7 * r) * 128 := by rw [show 7 * (r + 1) = 7 * r + 7 by omega, Nat.pow_add]
    have hq : 2 ^ (7 * (k + 1)) = 2 ^ (7 * k) * 128 := by rw [show 7 * (k + 1) = 7 * k + 7 by omega, Nat.pow_add]
    by_cases h1 : y < 128
    · rw [vint_low h1]
      simp only [List.cons_append, List.nil_append, numF]
      rw [if_neg (by omega), if_neg (by omega), Nat.mod_eq_of_lt h1]
      simp
    · have hr : 0 < r := by
        rcases Nat.eq_zero_or_pos r with rfl | h2
        · simp at h; omega
        · exact h2
      rw [vint_high (by omega)]
      simp only [List.cons_append, numF]
      rw [if_pos (by omega), numF_vint (r := r) (y := y / 128) l (by omega) hr (by omega), Nat.add_mod_right, Nat.mod_mod, hq]
      have e : x + y % 128 * 2 ^ (7 * k) + y / 128 * (2 ^ (7 * k) * 128) = x + y * 2 ^ (7 * k) := by
        have := Nat.mod_add_div y 128
        calc x + y % 128 * 2 ^ (7 * k) + y / 128 * (2 ^ (7 * k) * 128) = x + (y % 128 + 128 * (y / 128)) * 2 ^ (7 * k) := by
              rw [Nat.add_mul, Nat.add_assoc, Nat.mul_comm (2 ^ (7 * k)) 128, ← Nat.mul_assoc, Nat.mul_comm (y / 128) 128]
          _ = _ := by rw [this]
      rw [e]
      simp
      omega
theorem num_vint {y : Nat} (l : List Nat) (h : y < 268435456) : num (vint y ++ l) = (y, (vint y).length, 0) := by
  have := numF_vint (r := 4) (k := 0) (x := 0) l (show y < 2 ^ (7 * 4) by simpa using h) (by decide) (by omega)
  simpa [num] using this
end Go.Proofs.Ytaainefdjbmekaa.Vint
namespace Go.Proofs.Ytaainefdjbmekaa.Nd
open Vint
abbrev T3 := Int × Int × Int
/-- A node: height, keys, places (first block, blocks, slot), generations, children (first block, blocks, generation). -/
structure N where
  h : Int
  ks : List Int
  ps : List T3
  gs : List Int
  cs : List T3
def zero : N := ⟨0, [], [], [], []⟩
def RunOk (a n : Int) : Prop := 0 ≤ a ∧ a < 8192 ∧ 1 ≤ n ∧ n ≤ 128 ∧ n ≤ 8192 - a
def GenOk (g : Int) : Prop := 0 ≤ g ∧ g < 268435456
def PlaceOk (p : T3) (g : Int) : Prop := RunOk p.1 p.2.1 ∧ 0 ≤ p.2.2 ∧ p.2.2 < 8 ∧ GenOk g
def KidOk (c : T3) : Prop := RunOk c.1 c.2.1 ∧ GenOk c.2.2
def t3 (l : List T3) (i : Nat) : T3 := l.getD i (0, 0, 0)
def at_ (l : List Int) (i : Nat) : Int := l.getD i 0
/-- What a node must be. -/
structure Ok (n : N) : Prop where
  h0 : 0 ≤ n.h
  h6 : n.h < 6
  few : n.ks.length ≤ 8
  key : ∀ i, i < n.ks.length → 0 ≤ at_ n.ks i ∧ at_ n.ks i < 512
  asc : ∀ i, i + 1 < n.ks.length → at_ n.ks i < at_ n.ks (i + 1)
  leaf : n.h = 0 → n.ps.length = n.ks.length ∧ n.gs.length = n.ks.length ∧ n.cs = [] ∧ ∀ i, i < n.ks.length → PlaceOk (t3 n.ps i) (at_ n.gs i)
  inner : n.h ≠ 0 → n.cs.length = n.ks.length ∧ 1 ≤ n.ks.length ∧ n.ps = [] ∧ n.gs = [] ∧ ∀ i, i < n.ks.length → KidOk (t3 n.cs i)
/-- Numbers as bytes. -/
def putL (l : List Nat) : List Nat := l.flatMap vint
theorem putL_cons (x : Nat) (l : List Nat) : putL (x :: l) = vint x ++ putL l := rfl
theorem putL_app (l m : List Nat) : putL (l ++ m) = putL l ++ putL m := List.flatMap_append
/-- The numbers of the entry at i. -/
def entry (n : N) (i : Nat) : List Nat := if n.h = 0 then [(at_ n.ks i).toNat, (t3 n.ps i).1.toNat, (t3 n.ps i).2.1.toNat, (t3 n.ps i).2.2.toNat, (at_ n.gs i).toNat] else [(at_ n.ks i).toNat, (t3 n.cs i).1.toNat, (t3 n.cs i).2.1.toNat, (t3 n.cs i).2.2.toNat]
def entries (n : N) (k : Nat) : List Nat := (List.range k).flatMap (entry n)
theorem entries_next (n : N) (k : Nat) : entries n (k + 1) = entries n k ++ entry n k := by
  unfold entries
  rw [List.range_succ, List.flatMap_append, List.flatMap_cons, List.flatMap_nil, List.append_nil]
def nums (n : N) : List Nat := n.h.toNat :: n.ks.length :: entries n n.ks.length
def enc (n : N) : List Nat := putL (nums n)
/-- m numbers read one behind another: them and the rest, or the error. -/
def rds : Nat → List Nat → Except Nat (List Nat × List Nat)
  | 0, s => .ok ([], s)
  | m + 1, s => if (num s).2.2 = 0 then (match rds m (s.drop (num s).2.1) with | .ok (xs, t) => .ok ((num s).1 :: xs, t) | .error e => .error e) else .error (num s).2.2
theorem rds_len : ∀ {m : Nat} {s xs t : List Nat}, rds m s = .ok (xs, t) → xs.length = m ∧ (∀ x ∈ xs, x < 268435456) ∧ t.length ≤ s.length
  | 0, s, xs, t, h => by
    rw [rds] at h
    injection h with h
    injection h with h1 h2
    subst h1; subst h2
    exact ⟨rfl, by simp, Nat.le_refl _⟩
  | m + 1, s, xs, t, h => by
    rw [rds] at h
    by_cases h0 : (num s).2.2 = 0
    · rw [if_pos h0] at h
      cases h1 : rds m (s.drop (num s).2.1) with
      | error e => rw [h1] at h; cases h
      | ok r =>
        obtain ⟨ys, u⟩ := r
        rw [h1] at h
        injection h with h
        injection h with h2 h3
        subst h2; subst h3
        obtain ⟨i1, i2, i3⟩ := rds_len h1
        refine ⟨by rw [List.length_cons, i1], fun x hx => ?_, ?_⟩
        · rcases List.mem_cons.1 hx with rfl | hx
          · exact num_lt s
          · exact i2 x hx
        · rw [List.length_drop] at i3; omega
    · rw [if_neg h0] at h; cases h
theorem rds_err : ∀ {m : Nat} {s : List Nat} {e : Nat}, rds m s = .error e → e = 2 ∨ e = 4
  | 0, s, e, h => by rw [rds] at h; cases h
  | m + 1, s, e, h => by
    rw [rds] at h
    by_cases h0 : (num s).2.2 = 0
    · rw [if_pos h0] at h
      cases h1 : rds m (s.drop (num s).2.1) with
      | error e' => rw [h1] at h; injection h with h; subst h; exact rds_err h1
      | ok r => rw [h1] at h; cases h
    · rw [if_neg h0] at h
      injection h with h
      subst h
      have := numF_code (r := 4) (k := 0) (x := 0) (l := s)
      unfold num at h0 ⊢
      omega
/-- What was put is read. -/
theorem rds_put : ∀ (xs t : List Nat), (∀ x ∈ xs, x < 268435456) → rds xs.length (putL xs ++ t) = .ok (xs, t)
  | [], t, _ => rfl
  | x :: xs, t, h => by
    rw [List.length_cons, rds, putL_cons, List.append_assoc, num_vint _ (h x (List.mem_cons_self ..))]
    dsimp only
    rw [if_pos rfl, List.drop_left, rds_put xs t fun y hy => h y (List.mem_cons_of_mem _ hy)]
/-- What is read is what would have been put. -/
theorem numF_inv : ∀ {r k x : Nat} {s : List Nat}, (∀ b ∈ s, b < 256) → (numF r k x s).2.2 = 0 → ∃ y : Nat, y < 2 ^ (7 * r) ∧ (0 < k → 0 < y) ∧ (numF r k x s).1 = x + y * 2 ^ (7 * k) ∧ (numF r k x s).2.1 = k + (vint y).length ∧ s.take (vint y).length = vint y
  | 0, k, x, s, _, h => by rw [numF] at h; cases h
  | r + 1, k, x, [], _, h => by rw [numF] at h; cases h
  | r + 1, k, x, d :: s, hb, h => by
    rw [numF] at h ⊢
    by_cases c : 128 ≤ d
    · rw [if_pos c] at h ⊢
      obtain ⟨y, y1, y2, y3, y4, y5⟩ := numF_inv (fun b hm => hb b (List.mem_cons_of_mem _ hm)) h
      have hy0 := y2 (by omega)
      have hd := hb d (List.mem_cons_self ..)
      have hv : vint (d % 128 + 128 * y) = d :: vint y := by
        rw [vint_high (by omega), show (d % 128 + 128 * y) % 128 + 128 = d by omega, show (d % 128 + 128 * y) / 128 = y by omega]
      refine ⟨d % 128 + 128 * y, ?_, fun _ => by omega, ?_, ?_, ?_⟩
      · rw [show 7 * (r + 1) = 7 * r + 7 by omega, Nat.pow_add]
        omega
      · rw [y3, show 7 * (k + 1) = 7 * k + 7 by omega, Nat.pow_add, Nat.add_mul]
        have : y * (2 ^ (7 * k) * 2 ^ 7) = 128 * y * 2 ^ (7 * k) := by
          rw [show (2 : Nat) ^ 7 = 128 from rfl, Nat.mul_comm (2 ^ (7 * k)) 128, ← Nat.mul_assoc, Nat.mul_comm y 128]
        omega
      · rw [y4, hv, List.length_cons]; omega
      · rw [hv, List.length_cons, List.take_succ_cons, y5]
    · rw [if_neg c] at h ⊢
      by_cases c2 : d = 0 ∧ 0 < k
      · rw [if_pos c2] at h; cases h
      · rw [if_neg c2]
        refine ⟨d, ?_, fun hk => by omega, ?_, ?_, ?_⟩
        · have : 128 ≤ 2 ^ (7 * (r + 1)) := by rw [show 7 * (r + 1) = 7 * r + 7 by omega, Nat.pow_add]; exact Nat.le_mul_of_pos_left _ (Nat.pow_pos (by decide))
          omega
        · show x + d % 128 * 2 ^ (7 * k) = _
          rw [Nat.mod_eq_of_lt (by omega)]
        · rw [vint_low (by omega)]; rfl
        · rw [vint_low (by omega)]; rfl
theorem num_inv {s : List Nat} (hb : ∀ b ∈ s, b < 256) (h : (num s).2.2 = 0) : s = vint (num s).1 ++ s.drop (num s).2.1 := by
  obtain ⟨y, _, _, y3, y4, y5⟩ := numF_inv (r := 4) (k := 0) (x := 0) hb h
  have e1 : (num s).1 = y := by unfold num; rw [y3]; simp
  have e2 : (num s).2.1 = (vint y).length := by unfold num; rw [y4]; simp
  rw [e1, e2]
  conv => lhs; rw [← List.take_append_drop (vint y).length s]
  rw [y5]
theorem rds_inv : ∀ {m : Nat} {s xs t : List Nat}, (∀ b ∈ s, b < 256) → rds m s = .ok (xs, t) → s = putL xs ++ t
  | 0, s, xs, t, _, h => by
    rw [rds] at h
    injection h with h
    injection h with h1 h2
    subst h1; subst h2
    rfl
  | m + 1, s, xs, t, hb, h => by
    rw [rds] at h
    by_cases h0 : (num s).2.2 = 0
    · rw [if_pos h0] at h
      cases h1 : rds m (s.drop (num s).2.1) with
      | error e => rw [h1] at h; cases h
      | ok r =>
        obtain ⟨ys, u⟩ := r
        rw [h1] at h
        injection h with h
        injection h with h2 h3
        subst h2; subst h3
        have := rds_inv (fun b hm => hb b (List.mem_of_mem_drop hm)) h1
        rw [putL_cons, List.append_assoc, ← this]
        exact num_inv hb h0
    · rw [if_neg h0] at h; cases h
/-- Entries out of numbers: one, then all. -/
def width (h : Nat) : Nat := if h = 0 then 5 else 4
/-- One entry more. -/
def more (n : N) (xs : List Nat) : N :=
  if n.h = 0 then { n with ks := n.ks ++ [(xs.getD 0 0 : Int)], ps := n.ps ++ [((xs.getD 1 0 : Int), (xs.getD 2 0 : Int), (xs.getD 3 0 : Int))], gs := n.gs ++ [(xs.getD 4 0 : Int)] }
  else { n with ks := n.ks ++ [(xs.getD 0 0 : Int)], cs := n.cs ++ [((xs.getD 1 0 : Int), (xs.getD 2 0 : Int), (xs.getD 3 0 : Int))] }
/-- k entries read: the node, and the rest, or the error. -/
def ents (h : Nat) : Nat → List Nat → Except Nat (N × List Nat)
  | 0, s => .ok (⟨(h : Int), [], [], [], []⟩, s)
  | k + 1, s => match ents h k s with
    | .error e => .error e
    | .ok (n, t) => match rds (width h) t with
      | .error e => .error e
      | .ok (xs, u) => .ok (more n xs, u)
open Classical in
/-- What bytes say. -/
noncomputable def dec (b : List Nat) : N × Nat :=
  match rds 1 b with
  | .error e => (zero, e)
  | .ok (hs, s) => match rds 1 s with
    | .error e => (zero, e)
    | .ok (ms, t) =>
      if 8 < ms.getD 0 0 then (zero, 4) else
      match ents (hs.getD 0 0) (ms.getD 0 0) t with
      | .error e => (zero, e)
      | .ok (n, u) => if u ≠ [] then (zero, 3) else if Ok n then (n, 0) else (zero, 4)
end Go.Proofs.Ytaainefdjbmekaa.Nd
namespace Go.Proofs.Ytaainefdjbmekaa.Nd
open Vint
/-- The first k entries of a node. -/
def pre (n : N) (k : Nat) : N := ⟨n.h, n.ks.take k, n.ps.take k, n.gs.take k, n.cs.take k⟩
theorem take_getD {α : Type} (l : List α) (k : Nat) (d : α) (h : k < l.length) : l.take (k + 1) = l.take k ++ [l.getD k d] := by
  rw [List.take_add_one, List.getElem?_eq_getElem h, List.getD_eq_getElem?_getD, List.getElem?_eq_getElem h]
  rfl
theorem Ok.pre_all {n : N} (h : Ok n) : pre n n.ks.length = n := by
  obtain ⟨hh, ks, ps, gs, cs⟩ := n
  unfold pre
  dsimp only
  rw [List.take_length]
  by_cases h0 : hh = 0
  · obtain ⟨h1, h2, h3, -⟩ := h.leaf h0
    dsimp only at h1 h2 h3
    rw [List.take_of_length_le (by omega), List.take_of_length_le (by omega), h3, List.take_nil]
  · obtain ⟨h1, -, h3, h4, -⟩ := h.inner h0
    dsimp only at h1 h3 h4
    rw [h3, h4, List.take_nil, List.take_nil, List.take_of_length_le (by omega)]
theorem Ok.entry_len {n : N} (h : Ok n) (i : Nat) : (entry n i).length = width n.h.toNat := by
  unfold entry width
  have := h.h0
  by_cases h0 : n.h = 0
  · rw [if_pos h0, if_pos (by omega)]; rfl
  · rw [if_neg h0, if_neg (by omega)]; rfl
theorem Ok.entry_lt {n : N} (h : Ok n) {i : Nat} (hi : i < n.ks.length) : ∀ x ∈ entry n i, x < 268435456 := by
  have hk := h.key i hi
  intro x hx
  unfold entry at hx
  by_cases h0 : n.h = 0
  · rw [if_pos h0] at hx
    obtain ⟨-, -, -, h4⟩ := h.leaf h0
    obtain ⟨⟨p1, p2, p3, p4, p5⟩, p6, p7, p8, p9⟩ := h4 i hi
    simp only [List.mem_cons, List.not_mem_nil, or_false] at hx
    omega
  · rw [if_neg h0] at hx
    obtain ⟨-, -, -, -, h4⟩ := h.inner h0
    obtain ⟨⟨p1, p2, p3, p4, p5⟩, p8, p9⟩ := h4 i hi
    simp only [List.mem_cons, List.not_mem_nil, or_false] at hx
    omega
theorem Ok.more {n : N} (h : Ok n) {k : Nat} (hk : k < n.ks.length) : more (pre n k) (entry n k) = pre n (k + 1) := by
  have hkey := h.key k hk
  unfold Nd.more pre entry
  dsimp only
  by_cases h0 : n.h = 0
  · obtain ⟨h1, h2, h3, h4⟩ := h.leaf h0
    obtain ⟨⟨p1, p2, p3, p4, p5⟩, p6, p7, p8, p9⟩ := h4 k hk
    rw [if_pos h0, if_pos h0, take_getD n.ks k 0 hk, take_getD n.ps k (0, 0, 0) (by omega), take_getD n.gs k 0 (by omega), h3, List.take_nil, List.take_nil]
    simp only [List.getD_cons_zero, List.getD_cons_succ]
    have e1 : ((at_ n.ks k).toNat : Int) = n.ks.getD k 0 := Int.toNat_of_nonneg hkey.1
    have e2 : ((t3 n.ps k).1.toNat : Int) = (t3 n.ps k).1 := Int.toNat_of_nonneg p1
    have e3 : ((t3 n.ps k).2.1.toNat : Int) = (t3 n.ps k).2.1 := Int.toNat_of_nonneg (by omega)
    have e4 : ((t3 n.ps k).2.2.toNat : Int) = (t3 n.ps k).2.2 := Int.toNat_of_nonneg p6
    have e5 : ((at_ n.gs k).toNat : Int) = n.gs.getD k 0 := Int.toNat_of_nonneg p8
    rw [e1, e2, e3, e4, e5]
    rfl
  · obtain ⟨h1, -, h3, h5, h4⟩ := h.inner h0
    obtain ⟨⟨p1, p2, p3, p4, p5⟩, p8, p9⟩ := h4 k hk
    rw [if_neg h0, if_neg h0, take_getD n.ks k 0 hk, take_getD n.cs k (0, 0, 0) (by omega), h3, h5, List.take_nil, List.take_nil]
    simp only [List.getD_cons_zero, List.getD_cons_succ]
    have e1 : ((at_ n.ks k).toNat : Int) = n.ks.getD k 0 := Int.toNat_of_nonneg hkey.1
    have e2 : ((t3 n.cs k).1.toNat : Int) = (t3 n.cs k).1 := Int.toNat_of_nonneg p1
    have e3 : ((t3 n.cs k).2.1.toNat : Int) = (t3 n.cs k).2.1 := Int.toNat_of_nonneg (by omega)
    have e4 : ((t3 n.cs k).2.2.toNat : Int) = (t3 n.cs k).2.2 := Int.toNat_of_nonneg p8
    rw [e1, e2, e3, e4]
    rfl
theorem Ok.ents {n : N} (h : Ok n) : ∀ (k : Nat) (t : List Nat), k ≤ n.ks.length → ents n.h.toNat k (putL (entries n k) ++ t) = .ok (pre n k, t)
  | 0, t, _ => by
    unfold Nd.ents entries pre
    rw [Int.toNat_of_nonneg h.h0]
    rfl
  | k + 1, t, hk => by
    rw [Nd.ents, entries_next, putL_app, List.append_assoc, h.ents k _ (by omega)]
    dsimp only
    have hp := rds_put (entry n k) t (h.entry_lt (by omega))
    rw [h.entry_len] at hp
    rw [hp]
    dsimp only
    rw [h.more (by omega)]
theorem Ok.head {n : N} (h : Ok n) : n.h.toNat < 268435456 ∧ n.ks.length < 268435456 := by have := h.h6; have := h.few; omega
theorem rds_one (x : Nat) (t : List Nat) (h : x < 268435456) : rds 1 (vint x ++ t) = .ok ([x], t) := by
  have := rds_put [x] t (by simpa using h)
  rw [show putL [x] = vint x by simp [putL]] at this
  exact this
theorem enc_is (n : N) : enc n = vint n.h.toNat ++ (vint n.ks.length ++ putL (entries n n.ks.length)) := by
  unfold enc nums
  rw [putL_cons, putL_cons]
/-- What was encoded is decoded; with bytes behind it is too long. -/
theorem dec_enc {n : N} (h : Ok n) (t : List Nat) : dec (enc n ++ t) = if t ≠ [] then (zero, 3) else (n, 0) := by
  obtain ⟨b1, b2⟩ := h.head
  unfold dec
  rw [enc_is, List.append_assoc, List.append_assoc, rds_one _ _ b1]
  dsimp only
  rw [rds_one _ _ b2]
  dsimp only
  rw [show ([n.ks.length] : List Nat).getD 0 0 = n.ks.length from rfl, show ([n.h.toNat] : List Nat).getD 0 0 = n.h.toNat from rfl, if_neg (by have := h.few; omega), h.ents _ _ (Nat.le_refl _)]
  dsimp only
  rw [h.pre_all]
  by_cases ht : t ≠ []
  · rw [if_pos ht, if_pos ht]
  · rw [if_neg ht, if_neg ht, if_pos h]
/-- What the entries that were read look like. -/
structure EntsI (h k : Nat) (n : N) : Prop where
  hh : n.h = (h : Int)
  ks : n.ks.length = k
  ps : n.ps.length = if h = 0 then k else 0
  gs : n.gs.length = if h = 0 then k else 0
  cs : n.cs.length = if h = 0 then 0 else k
theorem entries_more (n : N) (xs : List Nat) {k : Nat} (hk : EntsI n.h.toNat k n) : entries (more n xs) k = entries n k := by
  unfold entries
  rw [List.flatMap_def, List.flatMap_def]
  congr 1
  refine List.map_congr_left fun i hi => ?_
  have hi : i < k := List.mem_range.1 hi
  have h1 := hk.ks
  have h2 := hk.ps
  have h3 := hk.gs
  have h4 := hk.cs
  have h5 := hk.hh
  unfold more entry at_ t3
  by_cases h0 : n.h = 0
  · rw [if_pos (show n.h.toNat = 0 by omega)] at h2 h3
    rw [if_pos h0]
    dsimp only
    rw [if_pos h0, if_pos h0]
    simp only [List.getD_eq_getElem?_getD]
    rw [List.getElem?_append_left (by omega), List.getElem?_append_left (by omega), List.getElem?_append_left (by omega)]
  · rw [if_neg (show ¬ n.h.toNat = 0 by omega)] at h4
    rw [if_neg h0]
    dsimp only
    rw [if_neg h0, if_neg h0]
    simp only [List.getD_eq_getElem?_getD]
    rw [List.getElem?_append_left (by omega), List.getElem?_append_left (by omega)]
theorem entry_more (n : N) (xs : List Nat) {k : Nat} (hk : EntsI n.h.toNat k n) (hx : xs.length = width n.h.toNat) : entry (more n xs) k = xs := by
  have h1 := hk.ks
  have h2 := hk.ps
  have h3 := hk.gs
  have h4 := hk.cs
  have h5 := hk.hh
  unfold width at hx
  unfold more entry at_ t3
  by_cases h0 : n.h = 0
  · rw [if_pos (show n.h.toNat = 0 by omega)] at h2 h3 hx
    rw [if_pos h0]
    dsimp only
    rw [if_pos h0]
    match xs, hx with
    | [a, b, c, d, e], _ =>
      simp only [List.getD_eq_getElem?_getD]
      rw [List.getElem?_append_right (by omega), List.getElem?_append_right (by omega), List.getElem?_append_right (by omega), h1, h2, h3]
      simp
  · rw [if_neg (show ¬ n.h.toNat = 0 by omega)] at h4 hx
    rw [if_neg h0]
    dsimp only
    rw [if_neg h0]
    match xs, hx with
    | [a, b, c, d], _ =>
      simp only [List.getD_eq_getElem?_getD]
      rw [List.getElem?_append_right (by omega), List.getElem?_append_right (by omega), h1, h4]
      simp
theorem more_i {n : N} {h k : Nat} (hk : EntsI h k n) (xs : List Nat) : EntsI h (k + 1) (more n xs) := by
  have h1 := hk.ks
  have h2 := hk.ps
  have h3 := hk.gs
  have h4 := hk.cs
  have h5 := hk.hh
  unfold more
  by_cases h0 : h = 0
  · rw [if_pos (show n.h = 0 by omega)]
    rw [if_pos h0] at h2 h3 h4
    refine ⟨h5, ?_, ?_, ?_, ?_⟩
    · show (n.ks ++ _).length = _; rw [List.length_append, h1]; rfl
    · show (n.ps ++ _).length = _; rw [List.length_append, h2, if_pos h0]; rfl
    · show (n.gs ++ _).length = _; rw [List.length_append, h3, if_pos h0]; rfl
    · show n.cs.length = _; rw [h4, if_pos h0]
  · rw [if_neg (show ¬ n.h = 0 by omega)]
    rw [if_neg h0] at h2 h3 h4
    refine ⟨h5, ?_, ?_, ?_, ?_⟩
    · show (n.ks ++ _).length = _; rw [List.length_append, h1]; rfl
    · show n.ps.length = _; rw [h2, if_neg h0]
    · show n.gs.length = _; rw [h3, if_neg h0]
    · show (n.cs ++ _).length = _; rw [List.length_append, h4, if_neg h0]; rfl
theorem ents_i : ∀ {h k : Nat} {s : List Nat} {n : N} {t : List Nat}, ents h k s = .ok (n, t) → EntsI h k n ∧ t.length ≤ s.length ∧ ((∀ b ∈ s, b < 256) → s = putL (entries n k) ++ t)
  | h, 0, s, n, t, e => by
    rw [ents] at e
    injection e with e
    injection e with e1 e2
    subst e1; subst e2
    refine ⟨⟨rfl, rfl, by simp, by simp, by simp⟩, Nat.le_refl _, fun _ => rfl⟩
  | h, k + 1, s, n, t, e => by
    rw [ents] at e
    cases h1 : ents h k s with
    | error x => rw [h1] at e; cases e
    | ok r =>
      obtain ⟨m, u⟩ := r
      rw [h1] at e
      dsimp only at e
      cases h2 : rds (width h) u with
      | error x => rw [h2] at e; cases e
      | ok r2 =>
        obtain ⟨xs, v⟩ := r2
        rw [h2] at e
        injection e with e
        injection e with e1 e2
        subst e1; subst e2
        obtain ⟨i1, i2, i3⟩ := ents_i h1
        obtain ⟨l1, -, l3⟩ := rds_len h2
        have hm : m.h.toNat = h := by rw [i1.hh]; rfl
        refine ⟨more_i i1 xs, by omega, fun hb => ?_⟩
        have e3 := i3 hb
        have hu := rds_inv (m := width h) (s := u) (fun b hbm => hb b (by rw [e3]; exact List.mem_append_right _ hbm)) h2
        rw [entries_next, entries_more m xs (by rw [hm]; exact i1), entry_more m xs (by rw [hm]; exact i1) (by rw [hm]; exact l1), putL_app, List.append_assoc, ← hu]
        exact e3
end Go.Proofs.Ytaainefdjbmekaa.Nd
