/- The union of rows of texts: rising, each once. Plain mathematics (without the library's sort). -/
import Derived.Test.YthfdjebeblmmdaaHUa
namespace Go.Proofs.Ythfdjebeblmmdaa
open Go.RowKit

def RisingT (l : List ByteArray) : Prop := l.Pairwise fun a b => cmpId a b < 0
/-- r is what is in l, each once, rising. -/
def IsUnion (l r : List ByteArray) : Prop := RisingT r ∧ ∀ s, s ∈ r ↔ s ∈ l
theorem cmpId_not_both {a b : ByteArray} (h : cmpId a b < 0) : ¬ cmpId b a < 0 := by rw [cmpId_neg a b]; omega
theorem rising_ext : ∀ {xs ys : List ByteArray}, RisingT xs → RisingT ys → (∀ s, s ∈ xs ↔ s ∈ ys) → xs = ys
  | [], [], _, _, _ => rfl
  | [], y :: ys, _, _, h => absurd ((h y).mpr (by simp)) (by simp)
  | x :: xs, [], _, _, h => absurd ((h x).mp (by simp)) (by simp)
  | x :: xs, y :: ys, hx, hy, h => by
    have hx' := List.pairwise_cons.mp hx
    have hy' := List.pairwise_cons.mp hy
    have e : x = y := by
      rcases List.mem_cons.mp ((h x).mp (by simp)) with e | e
      · exact e
      · rcases List.mem_cons.mp ((h y).mpr (by simp)) with e' | e'
        · exact e'.symm
        · exact absurd (hx'.1 y e') (cmpId_not_both (hy'.1 x e))
    subst e
    have : xs = ys := rising_ext hx'.2 hy'.2 fun s => by
      constructor
      · intro hs
        rcases List.mem_cons.mp ((h s).mp (by simp [hs])) with e | e
        · have := hx'.1 s hs; rw [e, cmpId_self] at this; omega
        · exact e
      · intro hs
        rcases List.mem_cons.mp ((h s).mpr (by simp [hs])) with e | e
        · have := hy'.1 s hs; rw [e, cmpId_self] at this; omega
        · exact e
    rw [this]
theorem IsUnion.ext {l r r' : List ByteArray} (h : IsUnion l r) (h' : IsUnion l r') : r = r' := rising_ext h.1 h'.1 fun s => (h.2 s).trans (h'.2 s).symm


def insT (a : ByteArray) : List ByteArray → List ByteArray
  | [] => [a]
  | x :: r => if a = x then x :: r else if cmpId a x < 0 then a :: x :: r else x :: insT a r
def unionF : List ByteArray → List ByteArray
  | [] => []
  | a :: l => insT a (unionF l)
theorem insT_mem (a s : ByteArray) : ∀ l : List ByteArray, s ∈ insT a l ↔ s = a ∨ s ∈ l
  | [] => by simp [insT]
  | x :: r => by
    unfold insT
    split
    · rename_i e; subst e; simp
    · split
      · simp
      · rw [List.mem_cons, insT_mem a s r, List.mem_cons]
        constructor
        · rintro (h | h | h)
          · exact .inr (.inl h)
          · exact .inl h
          · exact .inr (.inr h)
        · rintro (h | h | h)
          · exact .inr (.inl h)
          · exact .inl h
          · exact .inr (.inr h)
theorem insT_up (a : ByteArray) : ∀ l : List ByteArray, RisingT l → RisingT (insT a l)
  | [], _ => List.pairwise_singleton _ _
  | x :: r, h => by
    have h' := List.pairwise_cons.mp h
    unfold insT
    split
    · exact h
    · rename_i hne
      split
      · rename_i hlt
        refine List.pairwise_cons.mpr ⟨fun y hy => ?_, h⟩
        rcases List.mem_cons.mp hy with rfl | hy
        · exact hlt
        · exact cmpId_lt a x y hlt (by have := h'.1 y hy; omega)
      · rename_i hge
        refine List.pairwise_cons.mpr ⟨fun y hy => ?_, insT_up a r h'.2⟩
        rcases (insT_mem a y r).mp hy with rfl | hy
        · have h1 := cmpId_neg y x
          have h2 : cmpId y x ≠ 0 := fun e => hne ((cmpId_zero _ _).mp e)
          omega
        · exact h'.1 y hy
theorem unionF_is : ∀ l : List ByteArray, IsUnion l (unionF l)
  | [] => ⟨List.Pairwise.nil, fun _ => Iff.rfl⟩
  | a :: l => ⟨insT_up a _ (unionF_is l).1, fun s => by rw [unionF, insT_mem, (unionF_is l).2 s, List.mem_cons]⟩
theorem union_is {l r : List ByteArray} (h : IsUnion l r) : r = unionF l := h.ext (unionF_is l)
theorem insT_len (a : ByteArray) : ∀ l : List ByteArray, (insT a l).length ≤ l.length + 1
  | [] => by simp [insT]
  | x :: r => by
    unfold insT
    have := insT_len a r
    split
    · simp
    · split <;> simp <;> omega
theorem unionF_len : ∀ l : List ByteArray, (unionF l).length ≤ l.length
  | [] => Nat.le_refl _
  | a :: l => by have := insT_len a (unionF l); have := unionF_len l; rw [unionF]; simp; omega
theorem rowT_map (zs : List ByteArray) : rowCells cellsT zs = zs.map Value.string := by
  induction zs with
  | nil => rfl
  | cons x r ih => simp only [rowCells, List.flatMap_cons, List.map_cons] at ih ⊢; rw [ih]; rfl
end Go.Proofs.Ythfdjebeblmmdaa
