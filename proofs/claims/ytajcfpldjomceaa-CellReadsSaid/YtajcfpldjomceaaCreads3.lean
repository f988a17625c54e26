/- CellReads, walked. -/
import Derived.Test.YtajcfpldjomceaaCreads2
namespace Go.Proofs.Ytajcfpldjomceaa
open Go.RowKit Vint

set_option maxRecDepth 10000 in
set_option maxHeartbeats 4000000 in
theorem reads_any (A : Option Addr) (c : Nat) (b : List Nat) (Al : Option Addr) (cl : Nat) (l : List Part) (w : World) (hsl : Sl w w.heap.size A (byts b)) (hb : ∀ x ∈ b, x < 256) (hbc : b.length ≤ c) (hA : A = none → c = 0) (hl : PartsAt w w.heap.size Al l) :
    Calls Try.prog 4 #[.slice A b.length c, .slice Al l.length cl] w fun e w' => e = .returned (.bool true) ∧ Below w.heap.size w w' := by
  have hmf : ∀ (fn : Fn) (first cap : Array Value) (w : World), (Instr.makeFunc fn first cap).run Try.prog w = .ok (.func fn first cap) w := fun _ _ _ _ => rfl
  have b0 : Below w.heap.size w ((w.alloc (.cells #[.slice A b.length c] 24)).alloc (.cells #[.slice Al l.length cl] 22)) := ((Below.refl _ _).alloc (Nat.le_refl _) _).alloc (by simp) _
  have Ha := Lib.hid (cawake ((w.alloc (.cells #[.slice A b.length c] 24)).alloc (.cells #[.slice Al l.length cl] 22)))
  have hq0 : Blk ((w.alloc (.cells #[.slice A b.length c] 24)).alloc (.cells #[.slice Al l.length cl] 22)) w.heap.size 24 #[.slice A b.length c] := (Blk.new _ _ _).alloc _
  have hp0 : Blk ((w.alloc (.cells #[.slice A b.length c] 24)).alloc (.cells #[.slice Al l.length cl] 22)) (w.heap.size + 1) 22 #[.slice Al l.length cl] := by
    have := Blk.new (w.alloc (.cells #[.slice A b.length c] 24)) 22 #[.slice Al l.length cl]
    simpa using this
  have Hq0 := Lib.hid hq0
  have Hp0 := Lib.hid hp0
  clear hq0 hp0
  have early : ∀ (x y : Bool), decide (2000 < (b.length : Int)) = x → decide (100 < (l.length : Int)) = y → (x = true ∨ y = true) →
      Calls Try.prog 4 #[.slice A b.length c, .slice Al l.length cl] w fun e w' => e = .returned (.bool true) ∧ Below w.heap.size w w' := by
    intro x y h1 h2 h
    clear hl hsl hb
    cases x <;> cases y <;> first
      | (simp at h; done)
      | (go_enter Try.func4, Try.ntmps4
         go_wp2_with fail
         refine Ha.out.mono ?_
         rintro e w1 ⟨rfl, b1⟩
         have hq1 := Hq0.out.keep (b1.block _ Hq0.out.lt)
         have hp1 := Hp0.out.keep (b1.block _ Hp0.out.lt)
         have cq := cell_at hq1
         have cp := cell_at hp1
         have B1 := Lib.hid (b0.trans (b1.mono b0.size))
         clear b1 b0 Ha hp1 hq1 Hq0 Hp0
         go_wp2_with fail
         go_ret
         exact ⟨rfl, B1.out⟩)
  by_cases hbig : 2000 < b.length ∨ 100 < l.length
  · refine early _ _ rfl rfl ?_
    rcases hbig with h | h
    · exact .inl (by simp; omega)
    · exact .inr (by simp; omega)
  clear early
  have qa : decide (2000 < (b.length : Int)) = false := by simp; omega
  have qb : decide (100 < (l.length : Int)) = false := by simp; omega
  have h100 : l.length ≤ 100 := by omega
  have h2000 : b.length ≤ 2000 := by omega
  clear hbig
  go_enter Try.func4, Try.ntmps4
  go_wp2_with fail
  refine Ha.out.mono ?_
  rintro e w1 ⟨rfl, b1⟩
  have hq1 := Hq0.out.keep (b1.block _ Hq0.out.lt)
  have hp1 := Hp0.out.keep (b1.block _ Hp0.out.lt)
  have cq := cell_at hq1
  have cp := cell_at hp1
  have hb1 := b0.trans (b1.mono b0.size)
  have hz1 := hb1.size
  have Hq1 := Lib.hid hq1
  have Hp1 := Lib.hid hp1
  have HB1 := Lib.hid hb1
  have hm2 : Blk (((w1.alloc (.cells #[.slice A b.length c, .int .i64 0, .int .i64 0] 38)).alloc (.cells #[.pointer (some ⟨w1.heap.size, 0, none⟩)] 36)).alloc (.cells #[.bool true] 4)) w1.heap.size 38 (rcCells A b.length c 0 0) := ((Blk.new _ _ _).alloc _).alloc _
  have hv2 : Blk (((w1.alloc (.cells #[.slice A b.length c, .int .i64 0, .int .i64 0] 38)).alloc (.cells #[.pointer (some ⟨w1.heap.size, 0, none⟩)] 36)).alloc (.cells #[.bool true] 4)) (w1.heap.size + 1) 36 #[.pointer (some ⟨w1.heap.size, 0, none⟩)] := by
    have := (Blk.new (w1.alloc (.cells #[.slice A b.length c, .int .i64 0, .int .i64 0] 38)) 36 #[.pointer (some ⟨w1.heap.size, 0, none⟩)]).alloc (.cells #[.bool true] 4)
    simpa using this
  have ho2 : Blk (((w1.alloc (.cells #[.slice A b.length c, .int .i64 0, .int .i64 0] 38)).alloc (.cells #[.pointer (some ⟨w1.heap.size, 0, none⟩)] 36)).alloc (.cells #[.bool true] 4)) (w1.heap.size + 1 + 1) 4 #[.bool true] := by
    have := Blk.new ((w1.alloc (.cells #[.slice A b.length c, .int .i64 0, .int .i64 0] 38)).alloc (.cells #[.pointer (some ⟨w1.heap.size, 0, none⟩)] 36)) 4 #[.bool true]
    simpa using this
  have hq2 := ((hq1.alloc (.cells #[.slice A b.length c, .int .i64 0, .int .i64 0] 38)).alloc (.cells #[.pointer (some ⟨w1.heap.size, 0, none⟩)] 36)).alloc (.cells #[.bool true] 4)
  have hp2 := ((hp1.alloc (.cells #[.slice A b.length c, .int .i64 0, .int .i64 0] 38)).alloc (.cells #[.pointer (some ⟨w1.heap.size, 0, none⟩)] 36)).alloc (.cells #[.bool true] 4)
  have hb2 := ((hb1.alloc hz1 (.cells #[.slice A b.length c, .int .i64 0, .int .i64 0] 38)).alloc (by simp; omega) (.cells #[.pointer (some ⟨w1.heap.size, 0, none⟩)] 36)).alloc (by simp; omega) (.cells #[.bool true] 4)
  have rv : Rv _ w.heap.size (w.heap.size + 1) w.heap.size (w1.heap.size + 1) (w1.heap.size + 1 + 1) w1.heap.size A Al c cl b l.length := ⟨by omega, by omega, by omega, by omega, hz1, hm2, hp2, hq2, hv2, ho2⟩
  have cq2 := cell_at hq2
  have Hsl2 := Lib.hid (hsl.below hb2)
  have Hl2 := Lib.hid (hl.below hb2)
  have Rv2 := Lib.hid rv
  have HB2 := Lib.hid hb2
  clear b1 b0 Ha hp1 hq1 hb1 Hq0 Hp0 Hq1 Hp1 HB1 hm2 hv2 ho2 hq2 hp2 hb2 rv hsl hl
  go_wp2_with fail
  generalize hW : ((w1.alloc (.cells #[.slice A b.length c, .int .i64 0, .int .i64 0] 38)).alloc (.cells #[.pointer (some ⟨w1.heap.size, 0, none⟩)] 36)).alloc (.cells #[.bool true] 4) = W at *
  clear hW cq cp cq2
  generalize w1.heap.size + 1 + 1 = O at *
  generalize w1.heap.size + 1 = V at *
  generalize w1.heap.size = M at *
  obtain ⟨z, S, hR, hE⟩ : ∃ (z : Int) (S : World → Prop), Calls Try.prog 16 #[.slice A b.length c, .func (.func 17) #[] #[.pointer (some ⟨w.heap.size + 1, 0, none⟩), .pointer (some ⟨w.heap.size, 0, none⟩), .pointer (some ⟨V, 0, none⟩), .pointer (some ⟨O, 0, none⟩)]] W (ReadsR z O M S W) ∧
      ∀ w', S w' → Calls Try.prog 23 #[.pointer (some ⟨M, 0, none⟩)] w' fun e w'' => e = .returned (.int .i64 z) ∧ Below w'.heap.size w' w'' := by
    by_cases h0 : (rrun l b).1 = 0
    · by_cases hrest : 0 < (rrun l b).2.length
      · refine ⟨3, _, reads_ok Rv2.out hb hbc hA h2000 h100 Hsl2.out Hl2.out h0 true 3 (by simpa using hrest) rfl, ?_⟩
        rintro w' ⟨a, ha, he, hm⟩
        refine refEnd_long hm ?_
        rw [he, List.length_drop] at hrest
        omega
      · refine ⟨0, _, reads_ok Rv2.out hb hbc hA h2000 h100 Hsl2.out Hl2.out h0 false 0 (by simpa using hrest) rfl, ?_⟩
        rintro w' ⟨a, ha, he, hm⟩
        refine refEnd_whole hm ?_
        rw [he, List.length_drop] at hrest
        omega
    · refine ⟨_, _, reads_bad Rv2.out hb hbc hA h2000 h100 Hsl2.out Hl2.out h0, ?_⟩
      rintro w' ⟨a, e, he, hne, hm⟩
      rw [he]
      exact refEnd_bad hm hne
  refine hR.mono ?_
  rintro e w3 ⟨rfl, ho3, hS3, hc3⟩
  have n1 : V ≠ O := Blk.ne_ Rv2.out.v Rv2.out.o (by decide)
  have n2 : V ≠ M := Blk.ne_ Rv2.out.v Rv2.out.m (by decide)
  have hv3 := Rv2.out.v.keep (hc3.block _ Rv2.out.v.lt (by rintro (h | h) <;> omega))
  have hq3 := Rv2.out.bb.keep (hc3.block _ Rv2.out.bb.lt (by rintro (h | h) <;> first | exact absurd h (Blk.ne_ Rv2.out.bb Rv2.out.o (by decide)) | exact absurd h (Blk.ne_ Rv2.out.bb Rv2.out.m (by decide))))
  have hb3 := HB2.out.trans (hc3.below HB2.out.size (by have := Rv2.out.kO; have := Rv2.out.kM; rintro i (h | h) <;> omega))
  have co := cell_at ho3
  have cv := cell_at hv3
  have cq := cell_at hq3
  have HE := Lib.hid (hE w3 hS3)
  have Hq3 := Lib.hid hq3
  have HB3 := Lib.hid hb3
  have Ho3 := Lib.hid ho3
  have Hv3 := Lib.hid hv3
  clear hE hS3 hR Rv2 hc3 hv3 hq3 hb3 ho3 Hsl2 Hl2 HB2
  go_wp2_with fail
  refine HE.out.mono ?_
  rintro e w4 ⟨rfl, b4⟩
  have cq4 : w4.cell? ⟨w.heap.size, 0, none⟩ = some (.slice A b.length c) := (b4.cell (p := ⟨w.heap.size, 0, none⟩) Hq3.out.lt).trans (cell_at Hq3.out)
  have HB4 := Lib.hid (HB3.out.trans (b4.mono HB3.out.size))
  clear HE b4 HB3 Hq3 Ho3 Hv3 co cv cq
  go_wp2_with fail
  refine (read_nil _ _).mono ?_
  rintro e w5 ⟨rfl, b5⟩
  have HB5 := Lib.hid (HB4.out.trans (b5.mono HB4.out.size))
  clear b5 HB4
  go_wp2_with fail
  go_ret
  exact ⟨rfl, HB5.out⟩
end Go.Proofs.Ytajcfpldjomceaa
