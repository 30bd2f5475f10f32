/- The document's put: one is just so far. -/
import Derived.Test.YtkdeiljbjpefhaaDoorVj
import Derived.BigRegion
namespace Go.Proofs.YtkdeiljbjpefhaaDoor
open Go.RowKit

theorem own_set {w : World} {B : Nat} {e : TypeId} {g n c : Nat} {xs : List Value} (h : w.ownsRow B e 2 (.slice (some ⟨g, 0, none⟩) n c) n xs) (j : Nat) (u : Value) : (w.setCell ⟨g, j, none⟩ u).ownsRow B e 2 (.slice (some ⟨g, 0, none⟩) n c) n (xs.set j u) := by
  refine ⟨by rw [List.length_set]; exact h.1, ?_⟩
  rcases h.2 with ⟨hv, _⟩ | ⟨g', cap, cur, hv, hB, hh, hnc, hm, hs, ht⟩
  · cases hv
  · injection hv with e1 _ e3
    injection e1 with e1
    injection e1 with e1
    subst e1 e3
    refine .inr ⟨g, c, cur.setIfInBounds j u, rfl, hB, heap_setCell_same w g j cur e u hh, hnc, hm, by simp [hs], ?_⟩
    rw [Array.toList_setIfInBounds, ← ht, List.take_set]
theorem own_frozen {w : World} {B : Nat} {e : TypeId} {g n c : Nat} {xs : List Value} (h : w.ownsRow B e 2 (.slice (some ⟨g, 0, none⟩) n c) n xs) (j : Nat) : w.frozen? ⟨g, j, none⟩ = false := by
  rcases h.2 with ⟨hv, _⟩ | ⟨g', cap, cur, hv, hB, hh, hnc, hm, hs, ht⟩
  · cases hv
  · injection hv with e1 _ e3
    injection e1 with e1
    injection e1 with e1
    subst e1
    simp [World.frozen?, hh]
theorem set_mid {α : Type} (P : List α) (a b c d : α) (S : List α) (a' b' c' d' : α) :
    ((((P ++ a :: b :: c :: d :: S).set P.length c').set (P.length + 1) d').set (P.length + 2) a').set (P.length + 3) b' = P ++ c' :: d' :: a' :: b' :: S := by
  induction P with
  | nil => rfl
  | cons x P ih => simp
theorem swap_cells (pre post : List At) (x y : At) :
    ((((atCells (pre ++ y :: x :: post)).set (pre.length * 2) (.string x.1)).set (pre.length * 2 + 1) (.int .i64 x.2)).set (pre.length * 2 + 2) (.string y.1)).set (pre.length * 2 + 3) (.int .i64 y.2) = atCells (pre ++ x :: y :: post) := by
  have e1 : atCells (pre ++ y :: x :: post) = atCells pre ++ .string y.1 :: .int .i64 y.2 :: .string x.1 :: .int .i64 x.2 :: atCells post := by rw [atCells_append]; rfl
  have e2 : atCells (pre ++ x :: y :: post) = atCells pre ++ .string x.1 :: .int .i64 x.2 :: .string y.1 :: .int .i64 y.2 :: atCells post := by rw [atCells_append]; rfl
  rw [e1, e2, ← atCells_length]
  exact set_mid _ _ _ _ _ _ _ _ _ _

/-- What put leaves: the one stands where those behind it are greater, and the one ahead of it isn't. -/
def PutIs (d : List At) (x : At) (r : List At) : Prop :=
  ∃ pre post, pre ++ post = d ∧ r = pre ++ x :: post ∧ (∀ y ∈ post, 0 < cmpId y.1 x.1) ∧ (∀ y, pre.getLast? = some y → cmpId y.1 x.1 ≤ 0)

end Go.Proofs.YtkdeiljbjpefhaaDoor
