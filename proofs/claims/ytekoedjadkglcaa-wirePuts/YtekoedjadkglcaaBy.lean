/- Arguments that are rows of numbers, and of texts, opened. -/
import Derived.Test.YtekoedjadkglcaaBz
import Derived.Deep.Strs
namespace Go.Proofs.Ytekoedjadkglcaa
open Go.ChangeShapes Go.WideShapes Go.ChangeAt Go.RowKit

theorem cellsINT : Try.prog.cellsOf 3 = 1 := by kernel_rfl
theorem cellsSTR : Try.prog.cellsOf 9 = 1 := by kernel_rfl
/-- In w the slice (A, n) holds the numbers zs, in the block g. -/
def NumsAt (w : World) (g : Nat) (A : Option Addr) (n : Nat) (zs : List Int) : Prop :=
  zs.length = n ∧ (∀ z ∈ zs, z ≤ 9223372036854775807) ∧ (0 < n → g < w.heap.size ∧ ∃ off, A = some ⟨g, off, none⟩ ∧ ∀ k, k < n → w.cell? ⟨g, off + k, none⟩ = some (.int .i64 (zs.getD k 0)))
def TextsAt (w : World) (g : Nat) (A : Option Addr) (n : Nat) (zs : List ByteArray) : Prop :=
  zs.length = n ∧ (∀ z ∈ zs, z.size ≤ 9223372036854775807) ∧ (0 < n → g < w.heap.size ∧ ∃ off, A = some ⟨g, off, none⟩ ∧ ∀ k, k < n → w.cell? ⟨g, off + k, none⟩ = some (.string (zs.getD k (ByteArray.mk #[]))))
theorem open_introw {H : Type} {enc : TypeId × Value → H} {W : World} {base : Nat} {v : Value} {d : DataW H} {p : List MemPlace} (hv : Value.okWide Try.prog W .any base 39 v) (h : DataW.Trod enc Try.prog W 0 (fun _ => true) true 39 v d p) :
    ∃ (A : Option Addr) (n c g : Nat) (zs : List Int), v = .slice A n c ∧ NumsAt W g A n zs ∧ n ≤ c ∧ c ≤ 9223372036854775807 := by
  obtain ⟨A, n, c, rfl⟩ := okWide_slice Try.underlying39 hv
  obtain ⟨fuel, hf⟩ := h
  rcases open_ints Try.underlying39 Try.underlying3 cellsINT hf with ⟨hcs, _⟩ | ⟨x, l, c', zs, hcs, _, hl, hm, hz, _, hcell, hwf⟩
  · simp only [Value.cells, List.cons.injEq, and_true] at hcs
    injection hcs with e1 e2 e3
    subst e1 e2 e3
    exact ⟨none, 0, 0, 0, [], rfl, ⟨rfl, by simp, fun h => absurd h (by omega)⟩, Nat.le_refl _, by omega⟩
  · simp only [Value.cells, List.cons.injEq, and_true] at hcs
    injection hcs with e1 e2 e3
    subst e1 e2 e3
    simp only [if_true] at hz
    unfold maxLen at hm
    obtain ⟨b, off, spot⟩ := x
    refine ⟨_, n, c, b, zs.take n, rfl, ⟨by simp; omega, fun z hz2 => int_wf (hwf z (List.mem_of_mem_take hz2)), fun hp => ?_⟩, hl, by omega⟩
    have h0 := hcell 0 (by omega)
    have hspot : spot = none := by simpa [Addr.add] using World.cell?_spot h0
    subst hspot
    have hlt := World.block_lt_of_cell? W _ h0
    rw [addr_add] at hlt
    refine ⟨hlt, off, rfl, fun k hk => ?_⟩
    have h1 := hcell k (by omega)
    rw [addr_add] at h1
    rw [h1]
    simp [List.getD_eq_getElem?_getD, hk]
theorem open_strrow {H : Type} {enc : TypeId × Value → H} {W : World} {base : Nat} {v : Value} {d : DataW H} {p : List MemPlace} (hv : Value.okWide Try.prog W .any base 40 v) (h : DataW.Trod enc Try.prog W 0 (fun _ => true) true 40 v d p) :
    ∃ (A : Option Addr) (n c g : Nat) (zs : List ByteArray), v = .slice A n c ∧ TextsAt W g A n zs ∧ n ≤ c ∧ c ≤ 9223372036854775807 := by
  obtain ⟨A, n, c, rfl⟩ := okWide_slice Try.underlying40 hv
  obtain ⟨fuel, hf⟩ := h
  rcases Go.Deep.open_strs Try.underlying40 Try.underlying9 cellsSTR hf with ⟨hcs, _⟩ | ⟨x, l, c', m, Sx, hcs, _, hl, hm, hz, _, hcell⟩
  · simp only [Value.cells, List.cons.injEq, and_true] at hcs
    injection hcs with e1 e2 e3
    subst e1 e2 e3
    exact ⟨none, 0, 0, 0, [], rfl, ⟨rfl, by simp, fun h => absurd h (by omega)⟩, Nat.le_refl _, by omega⟩
  · simp only [Value.cells, List.cons.injEq, and_true] at hcs
    injection hcs with e1 e2 e3
    subst e1 e2 e3
    simp only [if_true] at hz
    unfold maxLen at hm hcell
    obtain ⟨b, off, spot⟩ := x
    refine ⟨_, n, c, b, (List.range n).map Sx, rfl, ⟨by simp, fun z hz2 => ?_, fun hp => ?_⟩, hl, by omega⟩
    · simp only [List.mem_map, List.mem_range] at hz2
      obtain ⟨i, hi, rfl⟩ := hz2
      have := (hcell i (by omega)).2
      omega
    have h0 := (hcell 0 (by omega)).1
    have hspot : spot = none := by simpa [Addr.add] using World.cell?_spot h0
    subst hspot
    have hlt := World.block_lt_of_cell? W _ h0
    rw [addr_add] at hlt
    refine ⟨hlt, off, rfl, fun k hk => ?_⟩
    have h1 := (hcell k (by omega)).1
    rw [addr_add] at h1
    rw [h1]
    simp [List.getD_eq_getElem?_getD, hk]

end Go.Proofs.Ytekoedjadkglcaa
