/- An argument that is a slice of parts: numbers, or bytes. -/
import Derived.Test.YtajcfpldjomceaaWide
import Derived.Test.YtajcfpldjomceaaChecked
namespace Go.Proofs.Ytajcfpldjomceaa
open Go.ChangeShapes Go.WideShapes Go.ChangeAt Go.RowKit

/-- A part: what to do, a number, bytes (their address, their capacity). -/
structure Part where
  d : Int
  n : Int
  A : Option Addr
  cap : Nat
  b : List Nat
def Part.cells (p : Part) : Array Value := #[.int .i64 p.d, .int .i64 p.n, .slice p.A p.b.length p.cap]
structure Part.ok (p : Part) (w : World) (B : Nat) : Prop where
  wd : (Lit.int .i64 p.d).wf = true
  wn : (Lit.int .i64 p.n).wf = true
  len : p.b.length ≤ p.cap
  max : p.cap ≤ maxLen
  sl : Sl w B p.A (byts p.b)
  byte : ∀ x ∈ p.b, x < 256
  nil : p.A = none → p.cap = 0
theorem Part.ok.below {p : Part} {w w' : World} {B : Nat} (h : p.ok w B) (hb : Below B w w') : p.ok w' B := ⟨h.wd, h.wn, h.len, h.max, h.sl.below hb, h.byte, h.nil⟩
/-- A slice's address, and the parts that its elements read as. -/
def PartsAt (w : World) (B : Nat) (A : Option Addr) (l : List Part) : Prop :=
  l = [] ∨ ∃ b o, A = some ⟨b, o, none⟩ ∧ b < B ∧ ∀ (i : Nat) (h : i < l.length) (j : Nat) (v : Value), (l[i].cells)[j]? = some v → w.cell? ⟨b, o + i * 3 + j, none⟩ = some v
theorem PartsAt.below {w w' : World} {B : Nat} {A : Option Addr} {l : List Part} (h : PartsAt w B A l) (hb : Below B w w') : PartsAt w' B A l := by
  rcases h with h | ⟨b, o, e, hlt, hc⟩
  · exact .inl h
  · exact .inr ⟨b, o, e, hlt, fun i hi j v hv => (hb.cell (p := ⟨b, o + i * 3 + j, none⟩) hlt).trans (hc i hi j v hv)⟩
theorem part_cells {w : World} {B : Nat} {A : Option Addr} {l : List Part} (h : PartsAt w B A l) {j : Nat} (hj : j < l.length) : ∃ b o, A = some ⟨b, o, none⟩ ∧ b < B ∧
    w.cell? ⟨b, o + j * 3, none⟩ = some (.int .i64 l[j].d) ∧ w.cell? ⟨b, o + j * 3 + 1, none⟩ = some (.int .i64 l[j].n) ∧ w.cell? ⟨b, o + j * 3 + 2, none⟩ = some (.slice l[j].A l[j].b.length l[j].cap) := by
  rcases h with rfl | ⟨b, o, e, hb, hc⟩
  · simp at hj
  · exact ⟨b, o, e, hb, hc j hj 0 _ rfl, hc j hj 1 _ rfl, hc j hj 2 _ rfl⟩

section
variable {H : Type} {enc : TypeId × Value → H} {w : World} {base : Nat}
theorem bytes_trod {fuel : Nat} {cs : List Value} {x : DataW H × List MemPlace} (hf : DataW.trod enc Try.prog w base (fun _ => true) true fuel 24 cs = some x) (hlt : ∀ y ∈ x.2, y.block < w.heap.size) :
    ∃ (A : Option Addr) (cap : Nat) (l : List Nat), cs = [.slice A l.length cap] ∧ l.length ≤ cap ∧ cap ≤ maxLen ∧ Sl w w.heap.size A (byts l) ∧ (∀ x ∈ l, x < 256) ∧ (A = none → cap = 0) := by
  obtain ⟨A, cap, zs, e1, e2, e3, e4, e5, e6⟩ := ints_trod Try.underlying24 Try.underlying5 (by kernel_rfl) hf hlt
  obtain ⟨l, rfl, hl⟩ := nats_of (b := 256) fun z hz => wf_nat8 (e5 z hz)
  refine ⟨A, cap, l, by rw [e1, List.length_map], by simpa using e2, e3, ?_, hl, e6⟩
  unfold byts
  rw [List.map_map] at e4
  exact e4
theorem parts_arg {r : Reach} {b0 : Nat} {v : Value} {d : DataW H} {p : List MemPlace} (hval : Value.okWide Try.prog w r b0 22 v) (h : DataW.Trod enc Try.prog w base (fun _ => true) true 22 v d p) (hlt : ∀ x ∈ p, x.block < w.heap.size) :
    ∃ (A : Option Addr) (cap : Nat) (l : List Part), v = .slice A l.length cap ∧ l.length ≤ cap ∧ cap ≤ maxLen ∧ PartsAt w w.heap.size A l ∧ (∀ x ∈ l, x.ok w w.heap.size) ∧ (A = none → cap = 0) := by
  obtain ⟨a1, len1, cap1, rfl⟩ := okWide_slice Try.underlying22 hval
  obtain ⟨fuel, hf⟩ := h
  rcases wide_trod Try.underlying22 Try.underlying28 (by kernel_rfl) (by kernel_rfl) hf hlt with hcs | ⟨a, len, cap, hcs, hl, hm, hb, hi⟩
  · simp [Value.cells] at hcs
    obtain ⟨rfl, rfl, rfl⟩ := hcs
    exact ⟨none, 0, [], rfl, Nat.le_refl _, Nat.zero_le _, .inl rfl, by simp, fun _ => rfl⟩
  simp [Value.cells] at hcs
  obtain ⟨rfl, rfl, rfl⟩ := hcs
  have each : ∀ i, i < len1 → ∃ y : Part, (∀ (j : Nat) (v : Value), y.cells[j]? = some v → w.cell? ((a.add (i * 3)).add j) = some v) ∧ y.ok w w.heap.size := by
    intro i hil
    obtain ⟨vs, _, hc, hfd⟩ := hi i (by omega)
    obtain ⟨v0, y0, n0, e0, t0, _⟩ := hfd 0 _ rfl
    obtain ⟨v1, y1, n1, e1, t1, _⟩ := hfd 1 _ rfl
    obtain ⟨v2, y2, n2, e2, t2, p2⟩ := hfd 2 _ rfl
    obtain ⟨z0, hz0, _, w0⟩ := DataW.trod_int Try.underlying3 t0
    obtain ⟨z1, hz1, _, w1⟩ := DataW.trod_int Try.underlying3 t1
    obtain ⟨K, ck, bs, hz2, k1, k2, k3, k4, k5⟩ := bytes_trod t2 p2
    injection hz0 with hz0
    injection hz1 with hz1
    injection hz2 with hz2
    refine ⟨⟨z0, z1, K, ck, bs⟩, fun j v hv => ?_, ⟨w0, w1, k1, k2, k3, k4, k5⟩⟩
    have hj : j < 3 := by
      rcases Nat.lt_or_ge j 3 with h | h
      · exact h
      · rw [Array.getElem?_eq_none h] at hv; cases hv
    rw [← hv]
    have : j = 0 ∨ j = 1 ∨ j = 2 := by omega
    rcases this with rfl | rfl | rfl
    · exact (hc 0 (by decide)).trans (by rw [e0, hz0]; rfl)
    · exact (hc 1 (by decide)).trans (by rw [e1, hz1]; rfl)
    · exact (hc 2 (by decide)).trans (by rw [e2, hz2]; rfl)
  obtain ⟨l, hll, hp⟩ := list_of_fn _ len1 each
  refine ⟨some a, cap1, l, by rw [hll], by omega, hm, ?_, fun f hfm => ?_, by simp⟩
  · by_cases h0 : len1 = 0
    · exact .inl (List.eq_nil_of_length_eq_zero (by omega))
    right
    obtain ⟨ab, ao, spot⟩ := a
    have hspot : spot = none := by simpa [Addr.add] using World.cell?_spot ((hp 0 (by omega)).1 0 _ rfl)
    subst hspot
    refine ⟨ab, ao, rfl, hb (Nat.mul_pos (by omega) (by decide)), fun i hii j v hv => ?_⟩
    have h1 := (hp i hii).1 j v hv
    rw [Addr.add_lit, Addr.add_lit] at h1
    exact h1
  · obtain ⟨i, hil, rfl⟩ := List.mem_iff_getElem.1 hfm
    exact (hp i hil).2
end
end Go.Proofs.Ytajcfpldjomceaa
