/- All that is asked of the program's counts. -/
import Derived.Test.YtfiafgmlbejboaaSls
import Derived.Test.YtfiafgmlbejboaaSse
namespace Go.Proofs.Ytfiafgmlbejboaa
open Go.RowKit

theorem RepSV.kb {w : World} {g gs : Nat} {X Xr : Nat → Prop} {F : List Bool} {l : List Sk.K} {v : Value} (_ : RepSV w g gs X Xr F l v) (hs : ShSt F (Sk.ofN l) (Sk.ofW l)) : KB l := kb_of hs.few hs.few2
theorem shares_are : ShC RepP RepB where
  keep := fun ⟨Xr, l, v, h, h1, h2⟩ hk => ⟨Xr, l, v, h.keep hk, h1, h2⟩
  lt := fun ⟨_, _, _, h, _, _⟩ _ hb => h.lt hb
  typ := fun ⟨_, _, _, h, _, _⟩ _ _ _ hb hbk => h.typ hb hbk
  new := snew_any'
  map := by
    rintro w g gs X F now was ⟨Xr, l, v, h, rfl, rfl⟩
    refine ⟨Xr, h.map, fun b hb => (h.at_ b).2 (.inl hb), fun w' F' ho => ?_⟩
    obtain ⟨X', Xr', s1, _, s3, s4⟩ := smap_op h ho
    exact ⟨X', ⟨Xr', l, v, s1, rfl, rfl⟩, s3, s4.mono fun b hb => (h.at_ b).2 (.inl hb)⟩
  add := by
    rintro w g gs X F now was ⟨Xr, l, v, h, rfl, rfl⟩ hs a n _ _ hok
    exact sadd_any' h (h.kb hs) a n hok
  more := by
    rintro w g gs X F now was ⟨Xr, l, v, h, rfl, rfl⟩ hs a _ _
    exact smore_any' h (h.kb hs) a
  less := by
    rintro w g gs X F now was ⟨Xr, l, v, h, rfl, rfl⟩ hs a _ _
    exact sless_any' h (h.kb hs) a
  uses := by
    rintro w g gs X F now was ⟨Xr, l, v, h, rfl, rfl⟩ hs a _
    exact suses_any' h (h.kb hs) a
  late := by
    rintro w g gs X F now was ⟨Xr, l, v, h, rfl, rfl⟩ hs
    exact slatel_any h (h.kb hs)
  list := by
    rintro w g gs X F now was ⟨Xr, l, v, h, rfl, rfl⟩ hs
    exact susedl_any h (h.kb hs)
  settle := by
    rintro w g gs X F now was ⟨Xr, l, v, h, rfl, rfl⟩ hs
    exact ssettle_any' h (h.kb hs)
  back := by
    rintro w g gs X F now was ⟨Xr, l, v, h, rfl, rfl⟩ hs
    exact sback_any' h (h.kb hs)
end Go.Proofs.Ytfiafgmlbejboaa
