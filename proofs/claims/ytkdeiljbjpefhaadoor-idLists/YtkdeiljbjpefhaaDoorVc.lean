/- vec.Within and vec.Right. -/
import Derived.Test.YtkdeiljbjpefhaaDoorVb
namespace Go.Proofs.YtkdeiljbjpefhaaDoor
open Go.RowKit

/-- Is none of zs farther than in ys? -/
def withinF (zs ys : List At) : Bool := zs.all fun x => decide (x.2 ≤ ofF ys x.1)
theorem all_take {zs : List At} {f : At → Bool} {k : Nat} (hk : k < zs.length) : (zs.take (k + 1)).all f = ((zs.take k).all f && f (zs.getD k atNil)) := by
  rw [List.take_succ_eq_append_getElem hk, List.all_append, List.getD_eq_getElem?_getD, List.getElem?_eq_getElem hk]
  simp
theorem all_false {zs : List At} {f : At → Bool} {k : Nat} (hk : k < zs.length) (h : f (zs.getD k atNil) = false) : zs.all f = false := by
  rw [List.all_eq_false]
  exact ⟨_, getD_mem hk, fun e => by rw [h] at e; cases e⟩

end Go.Proofs.YtkdeiljbjpefhaaDoor
