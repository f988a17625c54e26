/- The state of a platter, and what the document's own platter in memory holds of it. -/
import Derived.Test.YtdengokonaljpaaRows
import Derived.Test.YtdengokonaljpaaHeap
namespace Go.Proofs.Ytdengokonaljpaa
open Go.RowKit

/-- A platter: blocks, cached writes, planned faults (kind, number), counts since New and since Fail. -/
structure PSt where
  blocks : List (List Nat)
  cache : List (Nat × List Nat)
  plan : List (Int × Int)
  ops : Nat → Nat
  since : Nat → Nat

def bump (f : Nat → Nat) (k : Nat) : Nat → Nat := fun i => if i = k then f i + 1 else f i
/-- An operation of kind k is counted. -/
def PSt.count (st : PSt) (k : Nat) : PSt := { st with ops := bump st.ops k, since := bump st.since k }
/-- Is the operation of kind k that was just counted planned to fail? -/
def PSt.hit (st : PSt) (k : Nat) : Bool := st.plan.any fun f => f.1 == (k : Int) && f.2 == (st.since k : Int)

def planCells : List (Int × Int) → List Value
  | [] => []
  | f :: r => .int .i64 f.1 :: .int .i64 f.2 :: planCells r
def cacheCells : List (Nat × List Nat) → List Value → List Value
  | p :: r, v :: vs => .int .i64 (p.1 : Int) :: v :: cacheCells r vs
  | _, _ => []

theorem planCells_at : ∀ {l : List (Int × Int)} {i : Nat} (h : i < l.length), (planCells l)[i * 2]? = some (.int .i64 l[i].1) ∧ (planCells l)[i * 2 + 1]? = some (.int .i64 l[i].2)
  | f :: r, 0, _ => ⟨rfl, rfl⟩
  | f :: r, i + 1, h => by
    have := planCells_at (l := r) (i := i) (by simpa using h)
    rw [show (i + 1) * 2 = i * 2 + 1 + 1 by omega]
    exact this
theorem cacheCells_at : ∀ {l : List (Nat × List Nat)} {vs : List Value} {i : Nat} (h : i < l.length) (h' : i < vs.length), (cacheCells l vs)[i * 2]? = some (.int .i64 (l[i].1 : Int)) ∧ (cacheCells l vs)[i * 2 + 1]? = some vs[i]
  | p :: r, v :: vs, 0, _, _ => ⟨rfl, rfl⟩
  | p :: r, v :: vs, i + 1, h, h' => by
    have := cacheCells_at (l := r) (vs := vs) (i := i) (by simpa using h) (by simpa using h')
    rw [show (i + 1) * 2 = i * 2 + 1 + 1 by omega]
    exact this

/-- A slice that holds the bytes l, its block among F. -/
def Held (w : World) (F : Nat → Prop) (v : Value) (l : List Nat) : Prop := l.length = 64 ∧ (∀ x ∈ l, x < 256) ∧ Row w F 5 1 v l.length (byts l)
def AllHeld (w : World) (F : Nat → Prop) (vs : List Value) (ls : List (List Nat)) : Prop := vs.length = ls.length ∧ ∀ (i : Nat) (v : Value) (l : List Nat), vs[i]? = some v → ls[i]? = some l → Held w F v l

def num (n : Nat) : Value := .int .i64 (n : Int)
def refCells (st : PSt) (Bv Cv Pv : Value) : Array Value :=
  #[Bv, Cv, Pv, num (st.ops 0), num (st.ops 1), num (st.ops 2), num (st.ops 3), num (st.since 0), num (st.since 1), num (st.since 2), num (st.since 3)]

/-- Block g is the document's platter in state st; all that it holds lies in F. -/
structure RefR (w : World) (F : Nat → Prop) (g : Nat) (st : PSt) : Prop where
  lt : ∀ b, F b → b < w.heap.size
  fg : F g
  ex : ∃ Bv Cv Pv bs vs, Blk w g 46 (refCells st Bv Cv Pv) ∧
    Row w F 49 1 Bv st.blocks.length bs ∧ AllHeld w F bs st.blocks ∧
    Row w F 91 2 Cv st.cache.length (cacheCells st.cache vs) ∧ AllHeld w F vs (st.cache.map (·.2)) ∧
    Row w F 92 2 Pv st.plan.length (planCells st.plan)

end Go.Proofs.Ytdengokonaljpaa
