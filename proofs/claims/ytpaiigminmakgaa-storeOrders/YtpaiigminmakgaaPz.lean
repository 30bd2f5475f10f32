/- A row of ints that is handed in, opened. -/
import Derived.Test.YtpaiigminmakgaaPt
import Derived.Test.YtpaiigminmakgaaLx
import Derived.ProofKit
import Derived.OpenShut
namespace Go.Proofs.Ytpaiigminmakgaa
open Go.ChangeShapes Go.WideShapes Go.ChangeAt Go.RowKit

set_option maxRecDepth 100000 in
theorem cellsIN1 : Try.prog.cellsOf 3 = 1 := by kernel_rfl
set_option maxRecDepth 100000 in
theorem open_introw1 {H : Type} {enc : TypeId × Value → H} {W : World} {base : Nat} {v : Value} {d : DataW H} {p : List MemPlace} (hv : Value.okWide Try.prog W .any base 68 v) (h : DataW.Trod enc Try.prog W 0 (fun _ => true) true 68 v d p) :
    ∃ (A : Option Addr) (n c : Nat), v = .slice A n c ∧ IntRow W W.heap.size A n ∧ n ≤ 9223372036854775807 := by
  obtain ⟨A, n, c, rfl⟩ := okWide_slice Try.underlying68 hv
  obtain ⟨fuel, hf⟩ := h
  rcases open_ints Try.underlying68 Try.underlying3 cellsIN1 hf with ⟨hcs, _⟩ | ⟨x, l, c', zs, hcs, _, hl, hm, hz, _, hcell, _⟩
  · simp only [Value.cells, List.cons.injEq, and_true] at hcs
    injection hcs with e1 e2 e3
    subst e1 e2 e3
    exact ⟨none, 0, 0, rfl, fun h => absurd h (by omega), by omega⟩
  · simp only [Value.cells, List.cons.injEq, and_true] at hcs
    injection hcs with e1 e2 e3
    subst e1 e2 e3
    simp only [if_true] at hz
    unfold maxLen at hm
    refine ⟨some x, n, c, rfl, fun hp => ?_, by omega⟩
    obtain ⟨b, off, spot⟩ := x
    have h0 := hcell 0 (by omega)
    have hspot : spot = none := by simpa [Addr.add] using World.cell?_spot h0
    subst hspot
    have hlt := World.block_lt_of_cell? W _ h0
    rw [radd] at hlt
    refine ⟨b, off, rfl, hlt, fun k hk => ?_⟩
    have h1 := hcell k (by omega)
    rw [radd] at h1
    exact ⟨_, h1⟩
end Go.Proofs.Ytpaiigminmakgaa
