/- do, at any deed. -/
import Derived.Test.YtlcchefiicalpaaZfdj
namespace Go.Proofs.Ytlcchefiicalpaa
open Go.RowKit
/-- do, at any deed. -/
theorem doO_mono {p : Nat} {w : World} {X G : Nat → Prop} {st : Tr.MSt} {n n' : Nat} {m : List Tr.E} {e : Ending} {w' : World} (h : DoO p w X G st n m e w') (hn : n ≤ n') : DoO p w X G st n' m e w' := by
  obtain ⟨X', st', k', h', D, d, e1, e2, e3, ⟨q, e4, e5⟩, e6, e7⟩ := h
  exact ⟨X', st', k', h', D, d, e1, e2, e3, ⟨q, e4, Nat.le_trans e5 hn⟩, e6, e7⟩
theorem do_any {p : Nat} {w : World} {X G : Nat → Prop} {st : Tr.MSt} {k : Nd.T3} {h : Int} {m : List Tr.E} {N : Nat} {D0 : Option Addr} {d0 : Nat} (x : Tr.Dv) (hr : MRep p w X st) (hc : Tr.Calm st N) (hk : Tr.RootOk st.L k h m)
    (hG : ∀ b, G b → b < w.heap.size) (hm : Fast (fun b => X b ∨ G b) w fun u => SlC u u.heap.size D0 d0 m.length (evs m)) (hx : Fast X w fun u => x.ok u u.heap.size) (hml : m.length ≤ 100000) (hn : x.d.n ≤ 300) (hN : N + (15 * x.d.n + 6) ≤ 8000) :
    Calls Try.prog 33 #[.pointer (some ⟨p, 0, none⟩), Tr.rootV k h, .agg #[.slice D0 m.length d0], .agg x.cells] w (DoO p w X G st (15 * x.d.n + 6) (x.d.on m)) := by
  rcases x with ⟨⟨cut, L, ks⟩, P, cp, K, ck⟩
  have hn : L.length + ks.length ≤ 300 := hn
  have hN : N + (15 * (L.length + ks.length) + 6) ≤ 8000 := hN
  show Calls _ _ _ _ (DoO p w X G st (15 * (L.length + ks.length) + 6) _)
  cases cut with
  | true =>
    have := do_cut hr hc hk hG hm (hx.mono fun _ h => h.p) (hx.mono fun _ h => h.k) hml (show L.length ≤ 300 by omega) (show ks.length ≤ 300 by omega) hN
    refine this.mono fun e w' he => doO_mono ?_ (show 15 * ks.length + 6 ≤ _ by omega)
    have e1 : Tr.Dd.on ⟨true, L, ks⟩ m = if Tr.KeysOk ks then Tr.cuts m ks else m := by
      by_cases h : Tr.KeysOk ks
      · rw [if_pos h]; unfold Tr.Dd.on; rw [if_pos (show Tr.Dd.ok ⟨true, L, ks⟩ from h)]; rfl
      · rw [if_neg h]; unfold Tr.Dd.on; rw [if_neg (show ¬ Tr.Dd.ok ⟨true, L, ks⟩ from h)]
    rw [e1]
    exact he
  | false =>
    have := do_put hr hc hk hG hm (hx.mono fun _ h => h.p) (hx.mono fun _ h => h.k) hml (show L.length ≤ 300 by omega) (show ks.length ≤ 300 by omega) hN
    refine this.mono fun e w' he => doO_mono ?_ (show 15 * L.length + 6 ≤ _ by omega)
    have e1 : Tr.Dd.on ⟨false, L, ks⟩ m = if Tr.OkL L then Tr.puts m L else m := by
      by_cases h : Tr.OkL L
      · rw [if_pos h]; unfold Tr.Dd.on; rw [if_pos (show Tr.Dd.ok ⟨false, L, ks⟩ from h)]; rfl
      · rw [if_neg h]; unfold Tr.Dd.on; rw [if_neg (show ¬ Tr.Dd.ok ⟨false, L, ks⟩ from h)]
    rw [e1]
    exact he
end Go.Proofs.Ytlcchefiicalpaa
