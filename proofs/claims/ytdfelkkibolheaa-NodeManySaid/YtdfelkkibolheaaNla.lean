/- The statements' awake. -/
import Derived.Test.YtdfelkkibolheaaNpg
import Derived.Test.YtdfelkkibolheaaNpf
import Derived.Test.YtdfelkkibolheaaNdd
import Derived.Test.YtdfelkkibolheaaNdx
import Derived.Test.YtdfelkkibolheaaRefnum
namespace Go.Proofs.Ytdfelkkibolheaa
open Go.RowKit Vint

theorem rnumC : RNumC := fun x w hx => refnum_any x hx w
/-- A node in a block, at every later world. -/
structure NB (t : TypeId) (W : World) (g : Nat) (n : Nd.N) (A1 : Option Addr) (c1 : Nat) (A2 : Option Addr) (c2 : Nat) (A3 : Option Addr) (c3 : Nat) (A4 : Option Addr) (c4 : Nat) : Prop where
  blk : Blk W g t #[.int .i64 n.h, .slice A1 n.ks.length c1, .slice A2 n.ps.length c2, .slice A3 n.gs.length c3, .slice A4 n.cs.length c4]
  row : NdF W W.heap.size n A1 c1 A2 c2 A3 c3 A4 c4
section
variable {t : TypeId} {W W' : World} {g : Nat} {n : Nd.N} {A1 A2 A3 A4 : Option Addr} {c1 c2 c3 c4 : Nat} {v : Value}
theorem NB.below (h : NB t W g n A1 c1 A2 c2 A3 c3 A4 c4) (hb : Below W.heap.size W W') : NB t W' g n A1 c1 A2 c2 A3 c3 A4 c4 := ⟨h.blk.keep (hb.block g h.blk.lt), (h.row.below hb).more hb.size⟩
theorem NB.at_ (h : NB t W g n A1 c1 A2 c2 A3 c3 A4 c4) : NdAt W W.heap.size (.agg #[.int .i64 n.h, .slice A1 n.ks.length c1, .slice A2 n.ps.length c2, .slice A3 n.gs.length c3, .slice A4 n.cs.length c4]) n := ⟨A1, c1, A2, c2, A3, c3, A4, c4, rfl, h.row⟩
/-- The block that a value is put into. -/
theorem nb_box (h : NdAt W W.heap.size v n) (t : TypeId) : ∃ A1 c1 A2 c2 A3 c3 A4 c4, v = .agg #[.int .i64 n.h, .slice A1 n.ks.length c1, .slice A2 n.ps.length c2, .slice A3 n.gs.length c3, .slice A4 n.cs.length c4] ∧ NB t (W.alloc (.cells #[.int .i64 n.h, .slice A1 n.ks.length c1, .slice A2 n.ps.length c2, .slice A3 n.gs.length c3, .slice A4 n.cs.length c4] t)) W.heap.size n A1 c1 A2 c2 A3 c3 A4 c4 := by
  obtain ⟨A1, c1, A2, c2, A3, c3, A4, c4, e, hf⟩ := h
  have hb : Below W.heap.size W (W.alloc (.cells #[.int .i64 n.h, .slice A1 n.ks.length c1, .slice A2 n.ps.length c2, .slice A3 n.gs.length c3, .slice A4 n.cs.length c4] t)) := (Below.refl _ _).alloc (Nat.le_refl _) _
  exact ⟨A1, c1, A2, c2, A3, c3, A4, c4, e, Blk.new _ _ _, (hf.below hb).more hb.size⟩
end
theorem oy_sl {w : World} {B : Nat} {A : Option Addr} {c : Nat} {l : List Nat} (h : OY w B (.slice A l.length c) l) : Sl w w.heap.size A (byts l) ∧ l.length ≤ c ∧ (A = none → c = 0) := ⟨Sl.of_own h, own_len h, own_none h⟩
theorem enc_byte (n : Nd.N) : ∀ x ∈ Nd.enc n, x < 256 := Nd.putL_byte _
theorem enc_len {n : Nd.N} (h : Nd.Ok n) : (Nd.enc n).length ≤ 168 := by
  rw [Nd.enc_is, List.length_append, List.length_append]
  have h1 := entries_len h (Nat.le_refl _)
  have h2 := h.few
  have h3 := Vint.vint_len h.head.1
  have h4 := Vint.vint_len h.head.2
  omega
def nA : Nd.N := ⟨0, [5], [(2, 1, 0)], [1], []⟩
theorem nA_ok : Nd.Ok nA := by
  refine ⟨by decide, by decide, by decide, fun i hi => ?_, fun i hi => ?_, fun _ => ⟨rfl, rfl, rfl, fun i hi => ?_⟩, fun h => absurd rfl h⟩
  · have : i = 0 := by have : i < 1 := hi; omega
    subst this; decide
  · have : i + 1 < 1 := hi; omega
  · have : i = 0 := by have : i < 1 := hi; omega
    subst this; decide
theorem nA_at {w : World} {W1 W2 W3 : World} (h1 : w.alloc (.cells #[.int .i64 5] 3) = W1) (h2 : W1.alloc (.cells #[.int .i64 2, .int .i64 1, .int .i64 0] 84) = W2) (h3 : W2.alloc (.cells #[.int .i64 1] 3) = W3) : NdAt W3 W3.heap.size (.agg #[.int .i64 0, .slice (some ⟨w.heap.size, 0, none⟩) 1 1, .slice (some ⟨w.heap.size + 1, 0, none⟩) 1 1, .slice (some ⟨w.heap.size + 2, 0, none⟩) 1 1, .slice none 0 0]) nA := by
  have s1 : W1.heap.size = w.heap.size + 1 := by rw [← h1]; simp
  have s2 : W2.heap.size = w.heap.size + 2 := by rw [← h2]; simp; omega
  have s3 : W3.heap.size = w.heap.size + 3 := by rw [← h3]; simp; omega
  have b1 : Blk W3 w.heap.size 3 #[.int .i64 5] := by rw [← h3, ← h2, ← h1]; exact ((Blk.new _ _ _).alloc _).alloc _
  have b2 : Blk W3 (w.heap.size + 1) 84 #[.int .i64 2, .int .i64 1, .int .i64 0] := by rw [← h3, ← h2, ← s1]; exact (Blk.new _ _ _).alloc _
  have b3 : Blk W3 (w.heap.size + 2) 3 #[.int .i64 1] := by rw [← h3, ← s2]; exact Blk.new _ _ _
  refine ⟨_, 1, _, 1, _, 1, none, 0, rfl, ⟨Nat.le_refl _, (fun h => by cases h), ?_⟩, ⟨Nat.le_refl _, (fun h => by cases h), ?_⟩, ⟨Nat.le_refl _, (fun h => by cases h), ?_⟩, SlC.none_ _ _⟩
  · exact .inr ⟨w.heap.size, 0, rfl, by omega, fun i hi => by
      have : i = 0 := by have : i < 1 := hi; omega
      subst this; exact b1.cell 0⟩
  · exact .inr ⟨w.heap.size + 1, 0, rfl, by omega, fun i hi => by
      have : i < 3 := hi
      have : i = 0 ∨ i = 1 ∨ i = 2 := by omega
      rcases this with rfl | rfl | rfl <;> exact b2.cell _⟩
  · exact .inr ⟨w.heap.size + 2, 0, rfl, by omega, fun i hi => by
      have : i = 0 := by have : i < 1 := hi; omega
      subst this; exact b3.cell 0⟩
section
variable {t : TypeId} {W W' : World} {g : Nat} {n : Nd.N} {A1 A2 A3 A4 : Option Addr} {c1 c2 c3 c4 : Nat} {v : Value}
theorem NB.cells (h : NB t W g n A1 c1 A2 c2 A3 c3 A4 c4) : W.cell? ⟨g, 0, none⟩ = some (.int .i64 n.h) ∧ W.cell? ⟨g, 1, none⟩ = some (.slice A1 n.ks.length c1) ∧ W.cell? ⟨g, 2, none⟩ = some (.slice A2 n.ps.length c2) ∧ W.cell? ⟨g, 3, none⟩ = some (.slice A3 n.gs.length c3) ∧ W.cell? ⟨g, 4, none⟩ = some (.slice A4 n.cs.length c4) := ⟨h.blk.cell 0, h.blk.cell 1, h.blk.cell 2, h.blk.cell 3, h.blk.cell 4⟩
end
theorem dec_back {n : Nd.N} (h : Nd.Ok n) : Nd.dec (Nd.enc n) = (n, 0) := by
  have := Nd.dec_enc h []
  rw [List.append_nil, if_neg (by simp)] at this
  exact this
theorem ok_few {n : Nd.N} (h : Nd.Ok n) : FewOk n ∧ n.ps.length ≤ n.gs.length := by
  have h8 := h.few
  by_cases hz : n.h = 0
  · obtain ⟨a, b, c, -⟩ := h.leaf hz
    refine ⟨⟨by omega, by omega, by omega, by rw [c]; simp⟩, by omega⟩
  · obtain ⟨a, b, c, d, -⟩ := h.inner hz
    refine ⟨⟨by omega, by rw [c]; simp, by rw [d]; simp, by omega⟩, by rw [c]; simp⟩
set_option maxRecDepth 8000 in
set_option maxHeartbeats 16000000 in
theorem nawake_any (w : World) : Calls Try.prog 40 #[] w fun e w' => e = .returned (.bool true) ∧ Below w.heap.size w w' := by
  obtain ⟨W1, h1⟩ : ∃ W, w.alloc (.cells #[.int .i64 5] 3) = W := ⟨_, rfl⟩
  obtain ⟨W2, h2⟩ : ∃ W, W1.alloc (.cells #[.int .i64 2, .int .i64 1, .int .i64 0] 84) = W := ⟨_, rfl⟩
  obtain ⟨W3, h3⟩ : ∃ W, W2.alloc (.cells #[.int .i64 1] 3) = W := ⟨_, rfl⟩
  have hn := nA_at h1 h2 h3
  obtain ⟨b, hb⟩ : ∃ b, w.heap.size = b := ⟨_, rfl⟩
  have s1 : W1.heap.size = b + 1 := by rw [← h1, ← hb]; simp
  have s2 : W2.heap.size = b + 2 := by rw [← h2]; simp; omega
  have s3 : W3.heap.size = b + 3 := by rw [← h3]; simp; omega
  have hbW : Below b w W3 := by rw [← h3, ← h2, ← h1, ← hb]; exact (((Below.refl _ _).alloc (Nat.le_refl _) _).alloc (by simp) _).alloc (by simp; omega) _
  rw [hb] at hn ⊢
  go_enter Try.func40, Try.ntmps40
  go_upto_region 2 with fail
  obtain ⟨W4, h4⟩ : ∃ W, W3.alloc (.cells #[.int .i64 0, .slice (some ⟨b, 0, none⟩) 1 1, .slice (some ⟨b + 1, 0, none⟩) 1 1, .slice (some ⟨b + 2, 0, none⟩) 1 1, .slice none 0 0] 60) = W := ⟨_, rfl⟩
  have b4 : Below W3.heap.size W3 W4 := by rw [← h4]; exact (Below.refl _ _).alloc (Nat.le_refl _) _
  have nb : NB 60 W4 (b + 3) nA (some ⟨b, 0, none⟩) 1 (some ⟨b + 1, 0, none⟩) 1 (some ⟨b + 2, 0, none⟩) 1 none 0 := by
    refine ⟨by rw [← h4, ← s3]; exact Blk.new _ _ _, ?_⟩
    obtain ⟨A1, c1, A2, c2, A3, c3, A4, c4, e, hf⟩ := hn
    simp only [Value.agg.injEq, Array.mk.injEq, List.cons.injEq, Value.slice.injEq] at e
    obtain ⟨-, ⟨rfl, -, rfl⟩, ⟨rfl, -, rfl⟩, ⟨rfl, -, rfl⟩, ⟨rfl, -, rfl⟩, -⟩ := e
    exact (hf.below b4).more b4.size
  have BW := Lib.hid (show Below b w W4 ∧ b ≤ W4.heap.size from ⟨hbW.trans (b4.mono (by omega)), by have := b4.size; omega⟩)
  have HN := Lib.hid nb
  have Cs := Lib.hid (fun (V : World) (h : Below W4.heap.size W4 V) => show V.cell? ⟨b + 3, 0, none⟩ = some (.int .i64 0) ∧ V.cell? ⟨b + 3, 1, none⟩ = some (.slice (some ⟨b, 0, none⟩) 1 1) ∧ V.cell? ⟨b + 3, 2, none⟩ = some (.slice (some ⟨b + 1, 0, none⟩) 1 1) ∧ V.cell? ⟨b + 3, 3, none⟩ = some (.slice (some ⟨b + 2, 0, none⟩) 1 1) ∧ V.cell? ⟨b + 3, 4, none⟩ = some (.slice none 0 0) from (nb.below h).cells)
  have NA := Lib.hid (fun (V : World) (h : Below W4.heap.size W4 V) => show NdAt V V.heap.size (.agg #[.int .i64 0, .slice (some ⟨b, 0, none⟩) 1 1, .slice (some ⟨b + 1, 0, none⟩) 1 1, .slice (some ⟨b + 2, 0, none⟩) 1 1, .slice none 0 0]) nA from (nb.below h).at_)
  have hfew := ok_few nA_ok
  have N1 := Lib.hid (node_any (NA.out W4 (Below.refl _ _)) hfew.1)
  have hd := dec_back nA_ok
  obtain ⟨x0, x1, x2, x3, x4⟩ := Cs.out W4 (Below.refl _ _)
  obtain ⟨n, hnA⟩ : ∃ n, n = nA := ⟨_, rfl⟩
  have nok := nA_ok
  have hfind : Nd.find nA.ks 5 = (0, true) := by decide
  rw [← hnA] at NA N1 hfew hd nok hfind
  have le := enc_len nok
  have Hd := Lib.hid hd
  have Hok := Lib.hid nok
  have Hfew := Lib.hid hfew
  have Hfind := Lib.hid hfind
  have NE := Lib.hid (fun (V : World) (v : Value) (h : NdAt V V.heap.size v n) => enc_ok h nok)
  have ND := Lib.hid (fun (V : World) (A : Option Addr) (c : Nat) (h1 : Sl V V.heap.size A (byts (Nd.enc n))) (h2 : (Nd.enc n).length ≤ c) (h3 : A = none → c = 0) => show Calls Try.prog 47 #[.slice A (Nd.enc n).length c] V fun e w' => ∃ v, e = .returned (.tuple #[v, .int .i64 0]) ∧ NdAt w' w'.heap.size v n ∧ Below V.heap.size V w' from (pdec_any h1 h2 h3 (enc_byte n) (by omega)).mono fun e w' h => by rw [hd] at h; exact h)
  have Lk := Lib.hid (show n.ks.length ≤ 1000 by have := nok.few; omega)
  clear hfew hd nok hfind le hnA hbW b4 nb hn
  rw [h4]
  go_upto_region 4 with (first
    | (go_at_call 43; (with_reducible refine N1.out.mono ?_); rintro e w5 ⟨v5, rfl, g5, b5⟩; have NE := Lib.hid (NE.out w5 v5 g5); have B5 := Lib.hid b5; clear b5 g5)
    | (go_at_call 42; (with_reducible refine NE.out.mono ?_); rintro e w6 ⟨A6, c6, rfl, o6, b6⟩; have ND := Lib.hid (ND.out w6 A6 c6 (oy_sl o6).1 (oy_sl o6).2.1 (oy_sl o6).2.2); have B6 := Lib.hid (B5.out.trans (b6.mono B5.out.size)); clear o6 b6)
    | (go_at_call 47; (with_reducible refine ND.out.mono ?_); rintro e w7 ⟨v7, rfl, g7, b7⟩; have B7 := Lib.hid (B6.out.trans (b7.mono B6.out.size)); obtain ⟨X1, y1, X2, y2, X3, y3, X4, y4, rfl, nx⟩ := nb_box g7 66; clear b7 g7))
  obtain ⟨g8, hg8⟩ : ∃ g, w7.heap.size = g := ⟨_, rfl⟩
  obtain ⟨W8, h8⟩ : ∃ W, w7.alloc (.cells #[.int .i64 n.h, .slice X1 n.ks.length y1, .slice X2 n.ps.length y2, .slice X3 n.gs.length y3, .slice X4 n.cs.length y4] 66) = W := ⟨_, rfl⟩
  rw [h8, hg8] at nx
  have B8 := Lib.hid (show Below W4.heap.size W4 W8 from by rw [← h8]; exact B7.out.alloc B7.out.size _)
  rw [h8, hg8]
  have HX := Lib.hid nx
  have Cx := Lib.hid (fun (V : World) (h : Below W8.heap.size W8 V) => (nx.below h).cells)
  have FN := Lib.hid (find_any nx.at_ 5 Lk.out)
  rw [Hfind.out] at FN
  clear nx x0 x1 x2 x3 x4
  obtain ⟨x0, x1, x2, x3, x4⟩ := Cx.out W8 (Below.refl _ _)
  go_upto_region 5 with (go_at_call 51; (with_reducible refine FN.out.mono ?_); rintro e w9 ⟨rfl, b9⟩; have B9 := Lib.hid b9; clear b9)
  have Bq := Lib.hid (fun (V : World) (h : Below W8.heap.size W8 V) => show Below W4.heap.size W4 V from B8.out.trans (h.mono B8.out.size))
  have Kp := Lib.hid (fun (V : World) (h : Below W8.heap.size W8 V) => show (V.cell? ⟨b + 3, 0, none⟩ = some (.int .i64 0) ∧ V.cell? ⟨b + 3, 1, none⟩ = some (.slice (some ⟨b, 0, none⟩) 1 1) ∧ V.cell? ⟨b + 3, 2, none⟩ = some (.slice (some ⟨b + 1, 0, none⟩) 1 1) ∧ V.cell? ⟨b + 3, 3, none⟩ = some (.slice (some ⟨b + 2, 0, none⟩) 1 1) ∧ V.cell? ⟨b + 3, 4, none⟩ = some (.slice none 0 0)) ∧ (V.cell? ⟨g8, 0, none⟩ = some (.int .i64 n.h) ∧ V.cell? ⟨g8, 1, none⟩ = some (.slice X1 n.ks.length y1) ∧ V.cell? ⟨g8, 2, none⟩ = some (.slice X2 n.ps.length y2) ∧ V.cell? ⟨g8, 3, none⟩ = some (.slice X3 n.gs.length y3) ∧ V.cell? ⟨g8, 4, none⟩ = some (.slice X4 n.cs.length y4)) from ⟨Cs.out V (Bq.out V h), Cx.out V h⟩)
  have hbc : Below W8.heap.size W8 w9.drew := B9.out.drew
  have NBk := Lib.hid (back_any (HX.out.below hbc).at_ Hfew.out.1)
  clear x0 x1 x2 x3 x4
  go_region_held3 (fun V => (V.cell? ⟨b + 3, 0, none⟩ = some (.int .i64 0) ∧ V.cell? ⟨b + 3, 1, none⟩ = some (.slice (some ⟨b, 0, none⟩) 1 1) ∧ V.cell? ⟨b + 3, 2, none⟩ = some (.slice (some ⟨b + 1, 0, none⟩) 1 1) ∧ V.cell? ⟨b + 3, 3, none⟩ = some (.slice (some ⟨b + 2, 0, none⟩) 1 1) ∧ V.cell? ⟨b + 3, 4, none⟩ = some (.slice none 0 0)) ∧ (V.cell? ⟨g8, 0, none⟩ = some (.int .i64 n.h) ∧ V.cell? ⟨g8, 1, none⟩ = some (.slice X1 n.ks.length y1) ∧ V.cell? ⟨g8, 2, none⟩ = some (.slice X2 n.ps.length y2) ∧ V.cell? ⟨g8, 3, none⟩ = some (.slice X3 n.gs.length y3) ∧ V.cell? ⟨g8, 4, none⟩ = some (.slice X4 n.cs.length y4))) (first | exact Kp.out _ hbc) (first
    | (go_at_call 49; ((with_reducible refine NBk.out.mono ?_); rintro e w10 ⟨v10, rfl, g10, b10⟩; have hbc := hbc.trans (b10.mono hbc.size); have NS := Lib.hid (same_any g10 (NA.out w10 (Bq.out _ hbc)) Hfew.out.2 Hfew.out.1); clear b10 g10))
    | (go_at_call 48; ((with_reducible refine NS.out.mono ?_); rintro e w11 ⟨rfl, b11⟩; have hbc := hbc.trans (b11.mono hbc.size); have NM := Lib.hid (may_any (HX.out.below hbc).at_ true ⟨fun _ => Hok.out, fun _ => rfl⟩); clear b11))
    | (go_at_call 45; ((with_reducible refine NM.out.mono ?_); rintro e w12 ⟨rfl, b12⟩; have hbc := hbc.trans (b12.mono hbc.size); clear b12)))
  all_goals
    have Fin := Lib.hid (BW.out.1.trans ((Bq.out _ hbc).mono BW.out.2))
    go_wp2_with fail
    go_ret
    exact ⟨rfl, Fin.out⟩
end Go.Proofs.Ytdfelkkibolheaa
