/- What bytes are, in three classes: an error, too many keys, entries and a rest. -/
import Derived.Test.YtaainefdjbmekaaSbde
namespace Go.Proofs.Ytaainefdjbmekaa.Nd
open Vint
inductive Cls
  | bad (e : Nat)
  | many (s : List Nat)
  | fine (n : N) (u : List Nat)
def cls (b : List Nat) : Cls := match (nx (nx (.ok b)).2).2 with
  | .error e => .bad e
  | .ok s => if 8 < (nx (nx (.ok b)).2).1 then .many s else match ents (nx (.ok b)).1 (nx (nx (.ok b)).2).1 s with
    | .error e => .bad e
    | .ok (n, u) => .fine n u
theorem cls_head {b : List Nat} {e : Nat} (h : (nx (nx (.ok b)).2).2 = .error e) : cls b = .bad e := by unfold cls; rw [h]
theorem cls_many {b s : List Nat} (h : (nx (nx (.ok b)).2).2 = .ok s) (hm : 8 < (nx (nx (.ok b)).2).1) : cls b = .many s := by
  unfold cls; rw [h]; exact if_pos hm
theorem cls_rest {b s : List Nat} (h : (nx (nx (.ok b)).2).2 = .ok s) (hm : ¬ 8 < (nx (nx (.ok b)).2).1) : cls b = match ents (nx (.ok b)).1 (nx (nx (.ok b)).2).1 s with
    | .error e => .bad e
    | .ok (n, u) => .fine n u := by
  unfold cls; rw [h]; exact if_neg hm
open Classical in
theorem dec_cls (b : List Nat) : dec b = match cls b with
    | .bad e => (zero, e)
    | .many _ => (zero, 4)
    | .fine n u => if u ≠ [] then (zero, 3) else if Ok n then (n, 0) else (zero, 4) := by
  cases h : (nx (nx (.ok b)).2).2 with
  | error e => rw [cls_head h]; exact dec_head h
  | ok s =>
    by_cases hm : 8 < (nx (nx (.ok b)).2).1
    · rw [cls_many h hm]; exact dec_many h hm
    · rw [cls_rest h hm, dec_rest h hm]
      cases h2 : ents (nx (.ok b)).1 (nx (nx (.ok b)).2).1 s with
      | error e => rfl
      | ok p => rfl
theorem ents_nz : ∀ {h k : Nat} {s : List Nat} {e : Nat}, ents h k s = .error e → e ≠ 0
  | h, 0, s, e, he => by rw [ents] at he; cases he
  | h, k + 1, s, e, he => by
    rw [ents] at he
    cases h1 : ents h k s with
    | error e' =>
      rw [h1] at he
      injection he with he
      rw [← he]; exact ents_nz h1
    | ok p =>
      obtain ⟨n, t⟩ := p
      rw [h1] at he
      dsimp only at he
      cases h2 : rds (width h) t with
      | error e' =>
        rw [h2] at he
        injection he with he
        rw [← he]
        rcases rds_err h2 with c | c <;> omega
      | ok p => rw [h2] at he; cases he
theorem cls_nz {b : List Nat} {e : Nat} (h : cls b = .bad e) : e ≠ 0 := by
  cases h1 : (nx (nx (.ok b)).2).2 with
  | error k =>
    rw [cls_head h1] at h
    injection h with h
    rw [← h]
    exact (nx_err h1 (fun k hk => (nx_err hk (fun _ h => by cases h)).1)).1
  | ok s =>
    by_cases hm : 8 < (nx (nx (.ok b)).2).1
    · rw [cls_many h1 hm] at h; cases h
    · rw [cls_rest h1 hm] at h
      cases h2 : ents (nx (.ok b)).1 (nx (nx (.ok b)).2).1 s with
      | error k =>
        rw [h2] at h
        injection h with h
        rw [← h]; exact ents_nz h2
      | ok p => rw [h2] at h; cases h
theorem dec_good {b u : List Nat} {n : N} (h : cls b = .fine n u) (hu : ¬ u ≠ []) (ho : Ok n) : dec b = (n, 0) := by
  rw [dec_cls, h]
  dsimp only
  rw [if_neg hu, if_pos ho]
theorem dec_wrong {b u : List Nat} {n : N} (h : cls b = .fine n u) (hu : ¬ u ≠ []) (ho : ¬ Ok n) : dec b = (zero, 4) := by
  rw [dec_cls, h]
  dsimp only
  rw [if_neg hu, if_neg ho]
theorem dec_over {b u : List Nat} {n : N} (h : cls b = .fine n u) (hu : u ≠ []) : dec b = (zero, 3) := by
  rw [dec_cls, h]
  dsimp only
  rw [if_pos hu]
end Go.Proofs.Ytaainefdjbmekaa.Nd
