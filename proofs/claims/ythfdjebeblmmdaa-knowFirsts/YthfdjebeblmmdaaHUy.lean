/- A row of texts that is handed in, opened. -/
import Derived.Test.YthfdjebeblmmdaaHUt
import Derived.Test.YthfdjebeblmmdaaHK4
import Derived.Deep.Strs
namespace Go.Proofs.Ythfdjebeblmmdaa
open Go.ChangeShapes Go.WideShapes Go.ChangeAt Go.RowKit Go.Deep

set_option maxRecDepth 100000 in
theorem open_texts {H : Type} {enc : TypeId × Value → H} {W : World} {base : Nat} {v : Value} {d : DataW H} {p : List MemPlace} (hv : Value.okWide Try.prog W .any base 56 v) (h : DataW.Trod enc Try.prog W 0 (fun _ => true) true 56 v d p) :
    ∃ (A : Option Addr) (n c : Nat) (zs : List ByteArray), v = .slice A n c ∧ RowAt cellsT 1 W W.heap.size A n zs ∧ n ≤ c ∧ (∀ s ∈ zs, s.size ≤ 9223372036854775807) ∧ c ≤ 9223372036854775807 := by
  obtain ⟨A, n, c, rfl⟩ := okWide_slice Try.underlying56 hv
  obtain ⟨fuel, hf⟩ := h
  rcases Go.Deep.open_strs Try.underlying56 Try.underlying9 cellsST hf with ⟨hcs, _⟩ | ⟨x, l, c', m, Sx, hcs, _, hl, hm, hz, _, hcell⟩
  · simp only [Value.cells, List.cons.injEq, and_true] at hcs
    injection hcs with e1 e2 e3
    subst e1 e2 e3
    exact ⟨none, 0, 0, [], rfl, RowAt.nil, Nat.le_refl _, by simp, by omega⟩
  · simp only [Value.cells, List.cons.injEq, and_true] at hcs
    injection hcs with e1 e2 e3
    subst e1 e2 e3
    simp only [if_true] at hz
    unfold maxLen at hm hcell
    obtain ⟨b, off, spot⟩ := x
    refine ⟨_, n, c, (List.range n).map Sx, rfl, ⟨by simp, fun hp => ?_⟩, hl, fun z hz2 => ?_, by omega⟩
    · have h0 := (hcell 0 (by omega)).1
      have hspot : spot = none := by simpa [Addr.add] using World.cell?_spot h0
      subst hspot
      have hlt := World.block_lt_of_cell? W _ h0
      rw [radd] at hlt
      refine ⟨b, off, rfl, hlt, fun k hk j u hu => ?_⟩
      have hk' : k < n := by simpa using hk
      have hj : j = 0 := by have := (List.getElem?_eq_some_iff.mp hu).1; simp [cellsT] at this; exact this
      subst hj
      have h1 := (hcell k (by omega)).1
      rw [radd] at h1
      simp [cellsT] at hu
      rw [Nat.mul_one, Nat.add_zero, h1, ← hu]
    · simp only [List.mem_map, List.mem_range] at hz2
      obtain ⟨i, hi, rfl⟩ := hz2
      have := (hcell i (by omega)).2
      omega
end Go.Proofs.Ythfdjebeblmmdaa
