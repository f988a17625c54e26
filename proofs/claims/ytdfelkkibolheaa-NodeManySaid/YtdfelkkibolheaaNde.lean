/- The document's put, Encode. -/
import Derived.Test.YtdfelkkibolheaaNdy
import Derived.Deep.RegionHeldLaw
namespace Go.Proofs.Ytdfelkkibolheaa
open Go.RowKit

/-- A row of bytes of one's own. -/
abbrev OY (w : World) (B : Nat) (v : Value) (l : List Nat) : Prop := w.ownsRow B 5 1 v l.length (byts l)
/-- What is asked of the document's Num. -/
def RNumC : Prop := ∀ (x : Nat) (w : World), x < 268435456 → Calls Try.prog 16 #[.int .i64 (x : Int)] w fun e w' => ∃ A c, e = .returned (.tuple #[.slice A (Vint.vint x).length c, .bool true]) ∧ OY w' w.heap.size (.slice A (Vint.vint x).length c) (Vint.vint x) ∧ Below w.heap.size w w'
/-- Naturals as cells. -/
def nvs (l : List Nat) : List Value := ivs (l.map fun (x : Nat) => (x : Int))
theorem nvs_len (l : List Nat) : (nvs l).length = l.length := by unfold nvs; rw [ivs_len, List.length_map]
theorem nvs_at {l : List Nat} {i : Nat} (h : i < l.length) : Nd.at_ (l.map fun (x : Nat) => (x : Int)) i = ((l.getD i 0 : Nat) : Int) := by
  unfold Nd.at_
  rw [List.getD_eq_getElem?_getD, List.getElem?_map, List.getD_eq_getElem?_getD, List.getElem?_eq_getElem h]
  rfl
theorem putL_len : ∀ {l : List Nat}, (∀ x ∈ l, x < 268435456) → (Nd.putL l).length ≤ l.length * 4
  | [], _ => Nat.le_refl _
  | x :: l, h => by
    rw [Nd.putL_cons, List.length_append, List.length_cons]
    have h1 := Vint.vint_len (h x (List.mem_cons_self ..))
    have h2 := putL_len (l := l) fun y hy => h y (List.mem_cons_of_mem _ hy)
    omega
theorem take_getD' (l : List Nat) (k : Nat) (h : k < l.length) : l.take (k + 1) = l.take k ++ [l.getD k 0] := Nd.take_getD l k 0 h
theorem putL_next {l : List Nat} {i : Nat} (h : i < l.length) : Nd.putL (l.take (i + 1)) = Nd.putL (l.take i) ++ Vint.vint (l.getD i 0) := by
  rw [take_getD' l i h, Nd.putL_app]
  simp [Nd.putL]
theorem byts_app' (a b : List Nat) : byts (a ++ b) = byts a ++ byts b := by unfold byts; rw [List.map_append]
theorem byts_len' (a : List Nat) : (byts a).length = a.length := by unfold byts; rw [List.length_map]
theorem byts_one' (a : List Nat) : ∀ u ∈ byts a, u.oneCell' = true := by
  intro u hu
  obtain ⟨x, _, rfl⟩ := List.mem_map.1 hu
  rfl
set_option maxRecDepth 8000 in
set_option maxHeartbeats 8000000 in
theorem put_any (hN : RNumC) {w : World} {A : Option Addr} {c : Nat} {l : List Nat} (h : SlC w w.heap.size A c l.length (nvs l)) (hl : l.length ≤ 1000) (hx : ∀ x ∈ l, x < 268435456) :
    Calls Try.prog 62 #[.slice A l.length c] w fun e w' => ∃ A' c', e = .returned (.slice A' (Nd.putL l).length c') ∧ OY w' w.heap.size (.slice A' (Nd.putL l).length c') (Nd.putL l) ∧ Below w.heap.size w w' := by
  obtain ⟨i0, hi0, hz0, hs0, hb0⟩ := byte_parts (P := Try.prog) (e := 5) (by kernel_rfl)
  obtain ⟨q, hq⟩ : ∃ q, q = l.length := ⟨_, rfl⟩
  have Hq := Lib.hid hq
  have H := Lib.hid h
  have HX := Lib.hid hx
  have HN := Lib.hid hN
  rw [← hq] at hl ⊢
  clear h hx hN hq
  go_enter Try.func62, Try.ntmps62
  go_wp2_with fail
  go_loopw [3, 4] (fun s v wr => ∃ (i : Nat) (u : Value), u = s ∧ v = .int .i64 (i : Int) ∧ i ≤ q ∧ OY wr w.heap.size u (Nd.putL (l.take i)) ∧ Below w.heap.size w wr) (fun _ v _ => q - (intOf v).toNat)
  case atStart => exact ⟨0, _, rfl, rfl, Nat.zero_le _, World.ownsRow_nil _ _ _ _, Below.refl _ _⟩
  case round =>
    obtain ⟨i, u, rfl, rfl, hi, own, hb⟩ := hrel
    have HB := Lib.hid hb
    obtain ⟨A3, c3, rfl⟩ := own_slice own
    have Own := Lib.hid own
    by_cases hiq : i < q
    · have z0 : decide ((i : Int) < (q : Int)) = true := by rw [decide_eq_true_eq]; omega
      have z0' : decide (i < q) = true := by rw [decide_eq_true_eq]; exact hiq
      have hqi : (i : Int) < (q : Int) := by omega
      have hil : i < l.length := by rw [← Hq.out]; exact hiq
      obtain ⟨g, o, rfl, hg, hc⟩ := (H.out.below hb).int (l := l.map fun (x : Nat) => (x : Int)) (i := i) (by rw [List.length_map]; exact hil)
      rw [nvs_at hil] at hc
      have Nx := Lib.hid (putL_next hil)
      have hxl : l.getD i 0 < 268435456 := HX.out _ (by rw [List.getD_eq_getElem?_getD, List.getElem?_eq_getElem hil]; exact List.getElem_mem _)
      have hpl := putL_len (l := l.take i) fun x hx => HX.out x (List.mem_of_mem_take hx)
      rw [List.length_take] at hpl
      generalize l.getD i 0 = x at *
      have hv4 := Vint.vint_len hxl
      have N1 := Lib.hid (HN.out x wr hxl)
      obtain ⟨P, hP⟩ : ∃ P, P = Nd.putL (l.take i) := ⟨_, rfl⟩
      rw [← hP] at own Own Nx hpl ⊢
      obtain ⟨m, hm⟩ : ∃ m, m = P.length := ⟨_, rfl⟩
      have Hm := Lib.hid hm
      have hm5 : m ≤ 10000 := by omega
      have Own := Lib.hid (show wr.ownsRow w.heap.size 5 1 (.slice A3 m c3) m (byts P) from by have h := own; unfold OY at h; rw [← hm] at h; exact h)
      rw [← hm] at hpl ⊢
      obtain ⟨k, hk⟩ : ∃ k, k = (Vint.vint x).length := ⟨_, rfl⟩
      have Hk := Lib.hid hk
      rw [← hk] at N1 hv4
      clear hP hm hk hxl hil own hb
      go_wp2_with (first
        | (go_at_call 16; refine N1.out.mono ?_; rintro e w2 ⟨A2, c2, rfl, o2', h2⟩; have o2 : w2.ownsRow wr.heap.size 5 1 (.slice A2 k c2) k (byts (Vint.vint x)) := (by have o3 := o2'; unfold OY at o3; rw [← Hk.out] at o3; exact o3); have B2 := Lib.hid (HB.out.trans (h2.mono HB.out.size)); have Ow2 := Lib.hid (own_keep Own.out fun b _ hlt => h2.block b hlt); have S2 := Lib.hid (Sl.of_own o2); have hA2 := own_none o2; have hc2 := own_len o2; clear o2 o2' h2)
        | (at_builtin; refine wpList_append_sl (base := w.heap.size) _ rfl (.tmp 21) (.tmp 22) _ rfl Try.underlying24 hi0 hz0 hs0 hb0 rfl rfl Ow2.out (m := k) (news := byts (Vint.vint x)) rfl (by rw [byts_len', Hk.out]) hA2 S2.out (byts_one' _) (by rw [byts_len', ← Hk.out]; exact hc2) (by rw [byts_len', ← Hk.out]; unfold maxLen; omega) (by rw [byts_len', ← Hk.out]; omega) B2.out.size ?_; intro v8 w8 k1 k2 _; rw [byts_len', ← Hk.out] at k1; have K1 := Lib.hid k1; have B8 := Lib.hid (B2.out.grown k2 B2.out.size fun g hg => (Ow2.out.lt g hg).1); clear k1 k2))
      go_roundw
      case rel =>
        refine ⟨i + 1, _, rfl, by go_num, by omega, ?_, B8.out⟩
        rw [Nx.out]
        unfold OY
        rw [List.length_append, byts_app', ← Hm.out, ← Hk.out]
        exact K1.out
      case measure => simp [intOf]; omega
    · have hiq' : i = q := by omega
      have hall : l.take i = l := List.take_of_length_le (by rw [← Hq.out]; omega)
      have Own2 := Own.out
      subst hiq'
      have z0 : decide ((i : Int) < (i : Int)) = false := by simp
      have z0' : decide (i < i) = false := by simp
      have Fin := Lib.hid (show ∃ A' c', Ending.returned (.slice A3 (Nd.putL (l.take i)).length c3) = Ending.returned (.slice A' (Nd.putL l).length c') ∧ OY wr w.heap.size (.slice A' (Nd.putL l).length c') (Nd.putL l) ∧ Below w.heap.size w wr from ⟨A3, c3, by rw [hall], by rw [hall] at Own2; exact Own2, HB.out⟩)
      clear own hb hall Own2
      generalize (Nd.putL (l.take i)).length = m at *
      go_wp2_with fail
      go_ret
      exact Fin.out
end Go.Proofs.Ytdfelkkibolheaa
