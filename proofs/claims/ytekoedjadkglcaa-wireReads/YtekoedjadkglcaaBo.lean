/- WireReads, walked. -/
import Derived.Test.YtekoedjadkglcaaBn
import Derived.Test.YtekoedjadkglcaaBz
import Derived.Deep.SlicePairs
namespace Go.Proofs.Ytekoedjadkglcaa
open Go.ChangeShapes Go.WideShapes Go.ChangeAt Go.RowKit Go.Deep

theorem cellsTH : Try.prog.cellsOf 31 = 2 := by kernel_rfl
theorem cellsBOOL : Try.prog.cellsOf 4 = 1 := by kernel_rfl
theorem cellsINT' : Try.prog.cellsOf 3 = 1 := by kernel_rfl

/-- In w the slice (A, n) holds the things zs (a text? its most), in the block g. -/
def ThingsAt (w : World) (g : Nat) (A : Option Addr) (n : Nat) (zs : Nat → Bool × Int) : Prop :=
  0 < n → g < w.heap.size ∧ ∃ off, A = some ⟨g, off, none⟩ ∧ ∀ k, k < n → w.cell? ⟨g, off + k * 2, none⟩ = some (.bool (zs k).1) ∧ w.cell? ⟨g, off + k * 2 + 1, none⟩ = some (.int .i64 (zs k).2)

theorem open_things {H : Type} {enc : TypeId × Value → H} {W : World} {base : Nat} {v : Value} {d : DataW H} {p : List MemPlace} (hv : Value.okWide Try.prog W .any base 23 v) (h : DataW.Trod enc Try.prog W 0 (fun _ => true) true 23 v d p) :
    ∃ (A : Option Addr) (n c g : Nat) (zs : Nat → Bool × Int), v = .slice A n c ∧ ThingsAt W g A n zs ∧ n ≤ c ∧ c ≤ 9223372036854775807 := by
  obtain ⟨A, n, c, rfl⟩ := okWide_slice Try.underlying23 hv
  obtain ⟨fuel, hf⟩ := h
  rcases open_slice_pairs Try.underlying23 Try.underlying31 cellsTH rfl rfl cellsBOOL cellsINT' hf with ⟨hcs, _⟩ | ⟨a, len, cap, m, k, V0, V1, D0, D1, P0, P1, hcs, _, hl, hm, hmm, _, hc⟩
  · simp only [Value.cells, List.cons.injEq, and_true] at hcs
    injection hcs with e1 e2 e3
    subst e1 e2 e3
    exact ⟨none, 0, 0, 0, fun _ => (false, 0), rfl, (fun h => absurd h (by omega)), Nat.le_refl _, by omega⟩
  · simp only [Value.cells, List.cons.injEq, and_true] at hcs
    injection hcs with e1 e2 e3
    subst e1 e2 e3
    simp only [if_true] at hmm
    subst hmm
    have hs : ∀ i, i < m → ∃ s : Bool, V0 i = .bool s := fun i hi => by
      obtain ⟨s, e, _⟩ := DataW.trod_bool Try.underlying4 (hc i hi).2.2.1
      simp only [List.cons.injEq, and_true] at e
      exact ⟨s, e⟩
    have hn : ∀ i, i < m → ∃ z : Int, V1 i = .int .i64 z := fun i hi => by
      obtain ⟨z, e, _, _⟩ := DataW.trod_int Try.underlying3 (hc i hi).2.2.2
      simp only [List.cons.injEq, and_true] at e
      exact ⟨z, e⟩
    let S : Nat → Bool := fun i => match V0 i with | .bool s => s | _ => false
    let Z : Nat → Int := fun i => match V1 i with | .int _ z => z | _ => 0
    obtain ⟨b, off, spot⟩ := a
    refine ⟨_, n, m, b, fun i => (S i, Z i), rfl, fun hp => ?_, hl, by unfold maxLen at hm; omega⟩
    have h0 := (hc 0 (by omega)).1
    have hspot : spot = none := by simpa [Addr.add] using World.cell?_spot h0
    subst hspot
    have hlt := World.block_lt_of_cell? W _ h0
    rw [addr_add] at hlt
    refine ⟨hlt, off, rfl, fun i hi => ?_⟩
    obtain ⟨s, es⟩ := hs i (by omega)
    obtain ⟨z, ez⟩ := hn i (by omega)
    have h1 := (hc i (by omega)).1
    have h2 := (hc i (by omega)).2.1
    rw [addr_add] at h1 h2
    rw [h1]
    refine ⟨?_, ?_⟩
    · rw [es]; simp only [S, es]
    · rw [show off + i * 2 + 1 = off + (i * 2 + 1) by omega, h2, ez]; simp only [Z, ez]
theorem ThingsAt.cell {w w' : World} {g : Nat} {A : Option Addr} {n : Nat} {zs : Nat → Bool × Int} (h : ThingsAt w g A n zs) (hb : Below w.heap.size w w') {k : Nat} (hk : k < n) : ∃ off, A = some ⟨g, off, none⟩ ∧ g < w.heap.size ∧ w'.cell? ⟨g, off + k * 2, none⟩ = some (.bool (zs k).1) ∧ w'.cell? ⟨g, off + k * 2 + 1, none⟩ = some (.int .i64 (zs k).2) := by
  obtain ⟨hlt, off, rfl, hc⟩ := h (by omega)
  exact ⟨off, rfl, hlt, (hb.cell (p := ⟨g, off + k * 2, none⟩) hlt).trans (hc k hk).1, (hb.cell (p := ⟨g, off + k * 2 + 1, none⟩) hlt).trans (hc k hk).2⟩
end Go.Proofs.Ytekoedjadkglcaa
