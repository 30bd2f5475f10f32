/- vec.Set and vec.Meet. -/
import Derived.Test.YtkdeiljbjpefhaaDoorVf
namespace Go.Proofs.YtkdeiljbjpefhaaDoor
open Go.RowKit

theorem own_base {w : World} {B B' : Nat} {e : TypeId} {v : Value} {n : Nat} {xs : List Value} (h : w.ownsRow B e 2 v n xs) (hB : B' ≤ B) : w.ownsRow B' e 2 v n xs :=
  ⟨h.1, h.2.imp id fun ⟨g, cap, cur, a, b, r⟩ => ⟨g, cap, cur, a, Nat.le_trans hB b, r⟩⟩
theorem OwnVec.lift {B B' : Nat} {ty : TypeId} {zs : List At} {w w1 w' : World} {e : Ending} (h : OwnVec B ty zs w1 e w') (hB : B' ≤ B) (hb : Below w.heap.size w w1) : OwnVec B' ty zs w e w' := by
  obtain ⟨A, c, he, hc, ho, hw⟩ := h
  exact ⟨A, c, he, hc, own_base ho hB, hb.trans (hw.mono hb.size)⟩

/-- zs, where a is n far at least. -/
def setF (zs : List At) (a : ByteArray) (n : Int) : List At := if rightL a.data.toList = true ∧ 1 ≤ n then joinF zs [(a, min n 1048576)] else zs

theorem ownVec_ret {B : Nat} {ty : TypeId} {zs : List At} {w w' : World} {A : Option Addr} {n c : Nat} (hl : zs.length = n) (hc : n ≤ c) (ho : w'.ownsRow B ty 2 (.slice A n c) n (atCells zs)) (hb : Below w.heap.size w w') : OwnVec B ty zs w (.returned (.slice A n c)) w' := by
  subst hl
  exact ⟨A, c, rfl, hc, ho, hb⟩

/-- Of each of zs the lesser number; who is 0 far isn't there. -/
def meetF (zs ys : List At) : List At := zs.filterMap fun x => if 0 < min x.2 (ofF ys x.1) then some (x.1, min x.2 (ofF ys x.1)) else none
theorem meet_step {zs ys : List At} {k : Nat} (hk : k < zs.length) : meetF (zs.drop k) ys = (if 0 < min (zs.getD k atNil).2 (ofF ys (zs.getD k atNil).1) then [((zs.getD k atNil).1, min (zs.getD k atNil).2 (ofF ys (zs.getD k atNil).1))] else []) ++ meetF (zs.drop (k + 1)) ys := by
  have e : zs.getD k atNil = zs[k] := by rw [List.getD_eq_getElem?_getD, List.getElem?_eq_getElem hk]; rfl
  rw [e, List.drop_eq_getElem_cons hk, meetF, List.filterMap_cons]
  by_cases h : 0 < min (zs[k]).2 (ofF ys (zs[k]).1)
  · simp only [h, if_true]; rfl
  · simp only [h, if_false]; rfl
theorem meet_len (zs ys : List At) : (meetF zs ys).length ≤ zs.length := List.length_filterMap_le _ _

end Go.Proofs.YtkdeiljbjpefhaaDoor
