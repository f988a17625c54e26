/- The program's branchOf. -/
import Derived.Test.YtlcchefiicalpaaZwba
namespace Go.Proofs.Ytlcchefiicalpaa
open Go.RowKit
theorem below_alloc4 (w : World) (o1 o2 o3 o4 : Obj) : Below w.heap.size w ((((w.alloc o1).alloc o2).alloc o3).alloc o4) := ((((Below.refl _ _).alloc (Nat.le_refl _) _).alloc (by simp) _).alloc (by simp; omega) _).alloc (by simp; omega) _
set_option maxRecDepth 8000 in
set_option maxHeartbeats 4000000 in
theorem branchof_any {w : World} {v : Value} {n : Nd.N} (b : Tr.Br) (hv : NdAt w w.heap.size v n) (i : Nat) (h1 : i < n.ks.length) (h2 : i < n.cs.length) (hbh : 0 ≤ b.h ∧ b.h ≤ 9223372036854775807) (hl : n.ks.length ≤ 8) : Calls Try.prog 73 #[Tr.brV b, v, .int .i64 (i : Int)] w fun e w' => e = .returned (Tr.brV (Tr.kidB b n i)) ∧ Below w.heap.size w w' := by
  obtain ⟨A1, c1, A2, c2, A3, c3, A4, c4, rfl, hf⟩ := hv
  obtain ⟨⟨k1, k2, k3⟩, bh, bf, bt⟩ := b
  dsimp only [Tr.brV] at hbh ⊢
  obtain ⟨kb, ko, hA1, hkb, dk⟩ := hf.ks.int h1
  obtain ⟨pb, po, hA2, hpb, p0, p1, p2⟩ := hf.cs.three h2
  subst hA1; subst hA2
  have hkb1 : kb < w.heap.size + 1 := by omega
  have hkb2 : kb < w.heap.size + 1 + 1 := by omega
  have hkb3 : kb < w.heap.size + 1 + 1 + 1 := by omega
  have hpb1 : pb < w.heap.size + 1 := by omega
  have hpb2 : pb < w.heap.size + 1 + 1 := by omega
  have hpb3 : pb < w.heap.size + 1 + 1 + 1 := by omega
  have hi1 : (i : Int) < n.ks.length := by omega
  have hi2 : (i : Int) < n.cs.length := by omega
  obtain ⟨k, hk⟩ : ∃ k, k = Nd.at_ n.ks i := ⟨_, rfl⟩
  obtain ⟨p, hp⟩ : ∃ k, k = Nd.t3 n.cs i := ⟨_, rfl⟩
  rw [← hk] at dk
  rw [← hp] at p0 p1 p2
  have zh : wrap64 (bh - 1) = bh - 1 := by simp only [wrap64]; omega
  have Hp := Lib.hid hp
  have Hk := Lib.hid hk
  have hks := fun h => hf.ks.int (i := i + 1) h
  clear hk hp hf hbh
  by_cases hn : i + 1 < n.ks.length
  · obtain ⟨k2', hk2⟩ : ∃ k, k = Nd.at_ n.ks (i + 1) := ⟨_, rfl⟩
    obtain ⟨kb', ko', he, -, dk'⟩ := hks hn
    obtain ⟨rfl, rfl⟩ : kb = kb' ∧ ko = ko' := by injection he with he; injection he with h1 h2; exact ⟨h1, h2⟩
    rw [← hk2] at dk'
    have z0 : decide ((i : Int) + 1 < (n.ks.length : Int)) = true := by rw [decide_eq_true_eq]; omega
    have z1 : (i : Int) + 1 < (n.ks.length : Int) := by omega
    have z2 : wrap64 ((i : Int) + 1) = (i : Int) + 1 := by simp only [wrap64]; omega
    have Hres := Lib.hid (show Tr.kidB ⟨(k1, k2, k3), bh, bf, bt⟩ n i = ⟨p, bh - 1, k, k2'⟩ by unfold Tr.kidB Tr.next; rw [if_pos hn, Hp.out, Hk.out, hk2])
    clear hn hk2 he hks
    go_enter Try.func73, Try.ntmps73
    go_upto_region 1 with fail
    go_region
    go_wp2_with fail
    refine bodyPost_ret (v := Tr.brV ⟨p, bh - 1, k, k2'⟩) ?_ rfl ⟨by rw [Hres.out]; rfl, (below_alloc4 _ _ _ _ _).drew⟩
    simp [results, Try.results73]
    go_simp
    rfl
  · have z0 : decide ((i : Int) + 1 < (n.ks.length : Int)) = false := by rw [decide_eq_false_iff_not]; omega
    have z2 : wrap64 ((i : Int) + 1) = (i : Int) + 1 := by simp only [wrap64]; omega
    have Hres := Lib.hid (show Tr.kidB ⟨(k1, k2, k3), bh, bf, bt⟩ n i = ⟨p, bh - 1, k, bt⟩ by unfold Tr.kidB Tr.next; rw [if_neg hn, Hp.out, Hk.out])
    clear hn hks
    go_enter Try.func73, Try.ntmps73
    go_upto_region 1 with fail
    go_region
    go_wp2_with fail
    refine bodyPost_ret (v := Tr.brV ⟨p, bh - 1, k, bt⟩) ?_ rfl ⟨by rw [Hres.out]; rfl, (below_alloc4 _ _ _ _ _).drew⟩
    simp [results, Try.results73]
    go_simp
    rfl
end Go.Proofs.Ytlcchefiicalpaa
