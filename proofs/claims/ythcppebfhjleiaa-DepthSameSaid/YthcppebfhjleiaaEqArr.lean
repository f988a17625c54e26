/- Equality of two arrays of 256 ints that are the same. -/
import Derived.Test.YthcppebfhjleiaaRkraft
namespace Go.Proofs.Ythcppebfhjleiaa
open Go.RowKit

theorem forIn_yield {P : Program} {β : Type} (f : Nat → β → Sem (ForInStep β)) (b : β) (w : World) : ∀ is : List Nat, (∀ i ∈ is, (f i b).run P w = .ok (.yield b) w) → (forIn is b f).run P w = .ok b w
  | [], _ => by rw [List.forIn_nil]; rfl
  | i :: is, h => by
    rw [List.forIn_cons, Sem.run_bind, h i (List.mem_cons_self ..)]
    exact forIn_yield f b w is fun j hj => h j (List.mem_cons_of_mem _ hj)
theorem eq_int (d : Nat) (a : Int) (w : World) : (Op.equalIn (d + 1) 3 (.int .i64 a) (.int .i64 a)).run Try.prog w = .ok true w := by
  rw [Op.equalIn]
  simp only [Sem.run_bind, run_underlying Try.underlying3, Result.andThen_ok]
  go_simp
theorem eq_arr (l : List Int) (hl : l.length = 256) (w : World) : (Op.equalIn 10000 24 (.agg (ints l)) (.agg (ints l))).run Try.prog w = .ok true w := by
  have z3 := Try.sizeOf3
  have a3 := Try.isAgg3
  obtain ⟨C, hC⟩ : ∃ C, C = ints l := ⟨_, rfl⟩
  have hc : ∀ i, i < 256 → C[i]? = some (.int .i64 (l.getD i 0)) := fun i hi => by rw [hC, ints_at (by omega)]
  have hs : C.size = 256 := by rw [hC, ints_size, hl]
  rw [← hC]
  clear hC
  rw [show (10000 : Nat) = 9999 + 1 from rfl, Op.equalIn]
  simp only [Sem.run_bind, run_underlying Try.underlying24, Result.andThen_ok]
  simp only [Std.Legacy.Range.forIn_eq_forIn_range', Std.Legacy.Range.size, Nat.sub_zero, Nat.add_sub_cancel, Nat.div_one, z3, Result.andThen_ok]
  rw [forIn_yield _ _ w _ (fun i hi => ?_)]
  · rfl
  · have hi' : i < 256 := by simpa using hi
    have hp : (part 3 C (i * 1)).run Try.prog w = .ok (.int .i64 (l.getD i 0)) w := by
      have hci := hc i hi'
      rw [Nat.mul_one]
      unfold part
      rw [Sem.run_bind, a3, Result.andThen_ok, if_neg (by decide), hci]
      rfl
    rw [Sem.run_bind, hp, Result.andThen_ok, Sem.run_bind, hp, Result.andThen_ok, Sem.run_bind, show (9999 : Nat) = 9998 + 1 from rfl, eq_int]
    rfl
end Go.Proofs.Ythcppebfhjleiaa
