/- The program's reference counts, by contracts; the statements' awake; SharesAdds under the contracts. -/
import Derived.Test.YtfiafgmlbejboaaShok
import Derived.Test.YtfiafgmlbejboaaSref
import Derived.Test.YtfiafgmlbejboaaRunc
import Derived.Test.YtfiafgmlbejboaaRunm
namespace Go.Proofs.Ytfiafgmlbejboaa
open Go.RowKit

/-- What an operation leaves: the map and the counts, in old blocks of their own and in new ones. -/
def OpS (RepB : World → Nat → Nat → (Nat → Prop) → List Bool → List Sh.U → List Sh.U → Prop) (g gs : Nat) (X : Nat → Prop) (F : List Bool) (now was : List Sh.U) (w w' : World) : Prop :=
  ∃ X', RepB w' g gs X' F now was ∧ (∀ b, X' b → X b ∨ w.heap.size ≤ b) ∧ Chg X w w'
/-- What always holds of the two. -/
structure ShSt (F : List Bool) (now was : List Sh.U) : Prop where
  ok : Sh.StOk F now was
  few : UOk now
  few2 : UOk was
/-- What is asked of the program: RepB w g gs X F now was: the map at block g says F, the counts at block gs, over that map, say now, and was at the last Settle; all lies in the blocks X. -/
structure ShC (Rep : World → Nat → (Nat → Prop) → List Bool → Prop) (RepB : World → Nat → Nat → (Nat → Prop) → List Bool → List Sh.U → List Sh.U → Prop) : Prop where
  keep : ∀ {w w' : World} {g gs : Nat} {X : Nat → Prop} {F : List Bool} {now was : List Sh.U}, RepB w g gs X F now was → (∀ b, X b → w'.heap[b]? = w.heap[b]?) → RepB w' g gs X F now was
  lt : ∀ {w : World} {g gs : Nat} {X : Nat → Prop} {F : List Bool} {now was : List Sh.U}, RepB w g gs X F now was → ∀ b, X b → b < w.heap.size
  typ : ∀ {w : World} {g gs : Nat} {X : Nat → Prop} {F : List Bool} {now was : List Sh.U}, RepB w g gs X F now was → ∀ (b : Nat) (cs : Array Value) (t : TypeId), X b → Blk w b t cs → t ≠ 80 ∧ t ≠ 50
  new : ∀ {w : World} {g : Nat} {X : Nat → Prop} {F : List Bool}, Rep w g X F → Calls Try.prog 27 #[.pointer (some ⟨g, 0, none⟩)] w fun e w' => ∃ gs, e = .returned (.pointer (some ⟨gs, 0, none⟩)) ∧ OpS RepB g gs X F [] [] w w'
  map : ∀ {w : World} {g gs : Nat} {X : Nat → Prop} {F : List Bool} {now was : List Sh.U}, RepB w g gs X F now was → ∃ Xr, Rep w g Xr F ∧ (∀ b, Xr b → X b) ∧ ∀ (w' : World) (F' : List Bool), OpR Rep g Xr F' w w' → OpS RepB g gs X F' now was w w'
  add : ∀ {w : World} {g gs : Nat} {X : Nat → Prop} {F : List Bool} {now was : List Sh.U}, RepB w g gs X F now was → ShSt F now was → ∀ a n : Int, I64 a → I64 n → UOk (Sh.add now a n).2 → Calls Try.prog 29 #[.pointer (some ⟨gs, 0, none⟩), .agg #[.int .i64 a, .int .i64 n]] w fun e w' => e = .returned (.bool (Sh.add now a n).1) ∧ OpS RepB g gs X F (Sh.add now a n).2 was w w'
  more : ∀ {w : World} {g gs : Nat} {X : Nat → Prop} {F : List Bool} {now was : List Sh.U}, RepB w g gs X F now was → ShSt F now was → ∀ a : Int, I64 a → UOk (Sh.change now a true).2 → Calls Try.prog 31 #[.pointer (some ⟨gs, 0, none⟩), .int .i64 a] w fun e w' => e = .returned (.bool (Sh.change now a true).1) ∧ OpS RepB g gs X F (Sh.change now a true).2 was w w'
  less : ∀ {w : World} {g gs : Nat} {X : Nat → Prop} {F : List Bool} {now was : List Sh.U}, RepB w g gs X F now was → ShSt F now was → ∀ a : Int, I64 a → UOk (Sh.change now a false).2 → Calls Try.prog 33 #[.pointer (some ⟨gs, 0, none⟩), .int .i64 a] w fun e w' => e = .returned (.bool (Sh.change now a false).1) ∧ OpS RepB g gs X F (Sh.change now a false).2 was w w'
  uses : ∀ {w : World} {g gs : Nat} {X : Nat → Prop} {F : List Bool} {now was : List Sh.U}, RepB w g gs X F now was → ShSt F now was → ∀ a : Int, I64 a → Calls Try.prog 42 #[.pointer (some ⟨gs, 0, none⟩), .int .i64 a] w fun e w' => e = .returned (.int .i64 (Sh.uses now a : Int)) ∧ Below w.heap.size w w'
  late : ∀ {w : World} {g gs : Nat} {X : Nat → Prop} {F : List Bool} {now was : List Sh.U}, RepB w g gs X F now was → ShSt F now was → Calls Try.prog 44 #[.pointer (some ⟨gs, 0, none⟩)] w fun e w' => ∃ v, e = .returned v ∧ OwnR w' w.heap.size v (Sh.lst true now) ∧ Below w.heap.size w w'
  list : ∀ {w : World} {g gs : Nat} {X : Nat → Prop} {F : List Bool} {now was : List Sh.U}, RepB w g gs X F now was → ShSt F now was → Calls Try.prog 41 #[.pointer (some ⟨gs, 0, none⟩)] w fun e w' => ∃ v, e = .returned v ∧ OwnR w' w.heap.size v (Sh.lst false now) ∧ Below w.heap.size w w'
  settle : ∀ {w : World} {g gs : Nat} {X : Nat → Prop} {F : List Bool} {now was : List Sh.U}, RepB w g gs X F now was → ShSt F now was → Calls Try.prog 35 #[.pointer (some ⟨gs, 0, none⟩)] w fun e w' => e = .returned (.int .i64 (Sh.blocks (Sh.lates now) : Int)) ∧ OpS RepB g gs X (Sh.giveAll F (Sh.lates now)) (Sh.used now) (Sh.used now) w w'
  back : ∀ {w : World} {g gs : Nat} {X : Nat → Prop} {F : List Bool} {now was : List Sh.U}, RepB w g gs X F now was → ShSt F now was → Calls Try.prog 37 #[.pointer (some ⟨gs, 0, none⟩)] w fun e w' => e = .returned (.tuple #[]) ∧ OpS RepB g gs X (Sh.giveAll F (Sh.news now was)) was was w w'

/-- A map and counts of one's own, above B. -/
structure MineS (RepB : World → Nat → Nat → (Nat → Prop) → List Bool → List Sh.U → List Sh.U → Prop) (B g gs : Nat) (F : List Bool) (now was : List Sh.U) (w0 w : World) : Prop where
  has : ∃ X, RepB w g gs X F now was ∧ ∀ b, X b → B ≤ b
  st : ShSt F now was
  bel : Below B w0 w
  few : B ≤ w.heap.size
section
variable {Rep : World → Nat → (Nat → Prop) → List Bool → Prop} {RepB : World → Nat → Nat → (Nat → Prop) → List Bool → List Sh.U → List Sh.U → Prop} {w0 w w' : World} {B g gs : Nat} {F F' : List Bool} {now now' was was' : List Sh.U}
theorem MineS.op (h : MineS RepB B g gs F now was w0 w) (hs : ShSt F' now' was') {f : Nat} {args : Array Value} {Q : Ending → Prop} (P : ∀ X, RepB w g gs X F now was → Calls Try.prog f args w fun e w' => Q e ∧ OpS RepB g gs X F' now' was' w w') :
    Calls Try.prog f args w fun e w' => Q e ∧ MineS RepB B g gs F' now' was' w0 w' := by
  obtain ⟨X, hr, hx⟩ := h.has
  refine (P X hr).mono ?_
  rintro e w' ⟨hq, X', h1, h2, h3⟩
  exact ⟨hq, ⟨X', h1, fun b hb => (h2 b hb).elim (hx b) (fun e => Nat.le_trans h.few e)⟩, hs, h.bel.trans (h3.below h.few hx), Nat.le_trans h.few h3.size⟩
theorem MineS.below (hS : ShC Rep RepB) (h : MineS RepB B g gs F now was w0 w) (hb : Below w.heap.size w w') : MineS RepB B g gs F now was w0 w' := by
  obtain ⟨X, hr, hx⟩ := h.has
  exact ⟨⟨X, hS.keep hr fun b hX => hb.block b (hS.lt hr b hX), hx⟩, h.st, h.bel.trans (hb.mono h.few), Nat.le_trans h.few hb.size⟩
theorem MineS.mapOp (hS : ShC Rep RepB) (h : MineS RepB B g gs F now was w0 w) (hs : ShSt F' now was) {f : Nat} {args : Array Value} {Q : Ending → Prop} (P : ∀ X, Rep w g X F → Calls Try.prog f args w fun e w' => Q e ∧ OpR Rep g X F' w w') :
    Calls Try.prog f args w fun e w' => Q e ∧ MineS RepB B g gs F' now was w0 w' :=
  h.op hs fun _ hr => by
    obtain ⟨Xr, h1, _, h3⟩ := hS.map hr
    exact (P Xr h1).mono fun _ w' ⟨hq, ho⟩ => ⟨hq, h3 w' F' ho⟩
theorem MineS.new (hS : ShC Rep RepB) (h : MineR Rep w B g F) (hB : B ≤ w.heap.size) (hb : Below B w0 w) :
    Calls Try.prog 27 #[.pointer (some ⟨g, 0, none⟩)] w fun e w' => ∃ gs, e = .returned (.pointer (some ⟨gs, 0, none⟩)) ∧ MineS RepB B g gs F [] [] w0 w' := by
  obtain ⟨X, hr, hx⟩ := h
  refine (hS.new hr).mono ?_
  rintro e w' ⟨gs, rfl, X', h1, h2, h3⟩
  exact ⟨gs, rfl, ⟨X', h1, fun b hb => (h2 b hb).elim (hx b) (fun e => Nat.le_trans hB e)⟩, ⟨Sh.StOk.start F, ⟨by decide, by simp⟩, ⟨by decide, by simp⟩⟩, hb.trans (h3.below hB hx), Nat.le_trans hB h3.size⟩
theorem MineS.take (hC : RunsC Rep) (hS : ShC Rep RepB) (h : MineS RepB B g gs F now was w0 w) (n : Int) (hn : I64 n) (hs : ShSt (Rn.take F n).2.2 now was) :
    Calls Try.prog 15 #[.pointer (some ⟨g, 0, none⟩), .int .i64 n] w fun e w' => e = .returned (.tuple #[.int .i64 ((Rn.take F n).1 : Int), .bool (Rn.take F n).2.1]) ∧ MineS RepB B g gs (Rn.take F n).2.2 now was w0 w' :=
  h.mapOp hS hs fun _ hr => hC.take hr n hn
theorem MineS.free (hC : RunsC Rep) (hS : ShC Rep RepB) (h : MineS RepB B g gs F now was w0 w) :
    Calls Try.prog 23 #[.pointer (some ⟨g, 0, none⟩)] w fun e w' => e = .returned (.int .i64 (Rn.freeN F : Int)) ∧ MineS RepB B g gs F now was w0 w' := by
  obtain ⟨X, hr, hx⟩ := h.has
  obtain ⟨Xr, h1, _, _⟩ := hS.map hr
  exact (hC.free h1).mono fun _ _ ⟨e, hb⟩ => ⟨e, h.below hS hb⟩
theorem MineS.add (hS : ShC Rep RepB) (h : MineS RepB B g gs F now was w0 w) (a n : Int) (ha : I64 a) (hn : I64 n) (hs : ShSt F (Sh.add now a n).2 was) :
    Calls Try.prog 29 #[.pointer (some ⟨gs, 0, none⟩), .agg #[.int .i64 a, .int .i64 n]] w fun e w' => e = .returned (.bool (Sh.add now a n).1) ∧ MineS RepB B g gs F (Sh.add now a n).2 was w0 w' :=
  h.op hs fun _ hr => hS.add hr h.st a n ha hn hs.few
theorem MineS.more (hS : ShC Rep RepB) (h : MineS RepB B g gs F now was w0 w) (a : Int) (ha : I64 a) (hf : UOk (Sh.change now a true).2) :
    Calls Try.prog 31 #[.pointer (some ⟨gs, 0, none⟩), .int .i64 a] w fun e w' => e = .returned (.bool (Sh.change now a true).1) ∧ MineS RepB B g gs F (Sh.change now a true).2 was w0 w' :=
  h.op ⟨h.st.ok.change a true, hf, h.st.few2⟩ fun _ hr => hS.more hr h.st a ha hf
theorem MineS.less (hS : ShC Rep RepB) (h : MineS RepB B g gs F now was w0 w) (a : Int) (ha : I64 a) (hf : UOk (Sh.change now a false).2) :
    Calls Try.prog 33 #[.pointer (some ⟨gs, 0, none⟩), .int .i64 a] w fun e w' => e = .returned (.bool (Sh.change now a false).1) ∧ MineS RepB B g gs F (Sh.change now a false).2 was w0 w' :=
  h.op ⟨h.st.ok.change a false, hf, h.st.few2⟩ fun _ hr => hS.less hr h.st a ha hf
theorem MineS.uses (hS : ShC Rep RepB) (h : MineS RepB B g gs F now was w0 w) (a : Int) (ha : I64 a) :
    Calls Try.prog 42 #[.pointer (some ⟨gs, 0, none⟩), .int .i64 a] w fun e w' => e = .returned (.int .i64 (Sh.uses now a : Int)) ∧ MineS RepB B g gs F now was w0 w' := by
  obtain ⟨X, hr, _⟩ := h.has
  exact (hS.uses hr h.st a ha).mono fun _ _ ⟨e, hb⟩ => ⟨e, h.below hS hb⟩
theorem MineS.late (hS : ShC Rep RepB) (h : MineS RepB B g gs F now was w0 w) :
    Calls Try.prog 44 #[.pointer (some ⟨gs, 0, none⟩)] w fun e w' => ∃ v, e = .returned v ∧ OwnR w' w.heap.size v (Sh.lst true now) ∧ MineS RepB B g gs F now was w0 w' := by
  obtain ⟨X, hr, _⟩ := h.has
  exact (hS.late hr h.st).mono fun _ _ ⟨v, e, ho, hb⟩ => ⟨v, e, ho, h.below hS hb⟩
theorem MineS.list (hS : ShC Rep RepB) (h : MineS RepB B g gs F now was w0 w) :
    Calls Try.prog 41 #[.pointer (some ⟨gs, 0, none⟩)] w fun e w' => ∃ v, e = .returned v ∧ OwnR w' w.heap.size v (Sh.lst false now) ∧ MineS RepB B g gs F now was w0 w' := by
  obtain ⟨X, hr, _⟩ := h.has
  exact (hS.list hr h.st).mono fun _ _ ⟨v, e, ho, hb⟩ => ⟨v, e, ho, h.below hS hb⟩
theorem UOk.sub {l l' : List Sh.U} (h : UOk l) (hs : l'.Sublist l) : UOk l' := ⟨Nat.le_trans hs.length_le h.1, fun u hu => h.2 u (hs.subset hu)⟩
theorem MineS.settle (hS : ShC Rep RepB) (h : MineS RepB B g gs F now was w0 w) :
    Calls Try.prog 35 #[.pointer (some ⟨gs, 0, none⟩)] w fun e w' => e = .returned (.int .i64 (Sh.blocks (Sh.lates now) : Int)) ∧ MineS RepB B g gs (Sh.giveAll F (Sh.lates now)) (Sh.used now) (Sh.used now) w0 w' :=
  h.op ⟨h.st.ok.settle, h.st.few.sub List.filter_sublist, h.st.few.sub List.filter_sublist⟩ fun _ hr => hS.settle hr h.st
theorem MineS.back (hS : ShC Rep RepB) (h : MineS RepB B g gs F now was w0 w) :
    Calls Try.prog 37 #[.pointer (some ⟨gs, 0, none⟩)] w fun e w' => e = .returned (.tuple #[]) ∧ MineS RepB B g gs (Sh.giveAll F (Sh.news now was)) was was w0 w' :=
  h.op ⟨h.st.ok.back, h.st.few2, h.st.few2⟩ fun _ hr => hS.back hr h.st
end
theorem uok_one {a n m : Nat} (h1 : a ≤ 1000000) (h2 : n ≤ 1000000) (h3 : m ≤ 1000000000) : UOk [(a, n, m)] := ⟨by show 1 ≤ 100000; decide, fun u hu => by rw [List.mem_singleton.1 hu]; exact ⟨h1, h2, h3⟩⟩
end Go.Proofs.Ytfiafgmlbejboaa
