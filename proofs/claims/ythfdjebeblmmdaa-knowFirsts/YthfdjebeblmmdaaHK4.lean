/- Texts Vz Qz, one behind the other. -/
import Derived.Test.YthfdjebeblmmdaaHK1
import Derived.ProofKit
import Derived.OpenShut
import Derived.Deep.SlicePairs
import Derived.Test.YthfdjebeblmmdaaHK2
import Derived.Lib.SmallJoins
import Derived.Deep.RegionHeld
/- An argument that is a row of ids and numbers, opened. -/
namespace Go.Proofs.Ythfdjebeblmmdaa
open Go.ChangeShapes Go.WideShapes Go.ChangeAt Go.RowKit Go.Deep

set_option maxRecDepth 100000 in
theorem Try.own : ownKnob Try.prog.godebug = none := by kernel_rfl
set_option maxRecDepth 100000 in
theorem Try.laidOut : laidOutB Try.prog = true := by kernel_rfl
set_option maxRecDepth 100000 in
theorem cellsRA : Try.prog.cellsOf 104 = 2 := by kernel_rfl
set_option maxRecDepth 100000 in
theorem cellsST : Try.prog.cellsOf 9 = 1 := by kernel_rfl
set_option maxRecDepth 100000 in
theorem cellsIN : Try.prog.cellsOf 3 = 1 := by kernel_rfl

set_option maxRecDepth 100000 in
theorem open_vec {H : Type} {enc : TypeId × Value → H} {W : World} {base : Nat} {v : Value} {d : DataW H} {p : List MemPlace} (hv : Value.okWide Try.prog W .any base 55 v) (h : DataW.Trod enc Try.prog W 0 (fun _ => true) true 55 v d p) :
    ∃ (A : Option Addr) (n c : Nat) (zs : List At), v = .slice A n c ∧ VecAt W W.heap.size A n zs ∧ n ≤ c ∧ Short zs ∧ n ≤ 9223372036854775807 := by
  obtain ⟨A, n, c, rfl⟩ := okWide_slice Try.underlying55 hv
  obtain ⟨fuel, hf⟩ := h
  rcases open_slice_pairs Try.underlying55 Try.underlying104 cellsRA rfl rfl cellsST cellsIN hf with ⟨hcs, _⟩ | ⟨a, len, cap, m, k, V0, V1, D0, D1, P0, P1, hcs, _, hl, hm, hmm, _, hc⟩
  · simp only [Value.cells, List.cons.injEq, and_true] at hcs
    injection hcs with e1 e2 e3
    subst e1 e2 e3
    exact ⟨none, 0, 0, [], rfl, VecAt.nil _ _ _, Nat.le_refl _, fun k => by show 0 ≤ _; omega, by omega⟩
  · simp only [Value.cells, List.cons.injEq, and_true] at hcs
    injection hcs with e1 e2 e3
    subst e1 e2 e3
    simp only [if_true] at hmm
    subst hmm
    have hs : ∀ i, i < m → ∃ s : ByteArray, V0 i = .string s ∧ s.size ≤ maxLen := fun i hi => by
      obtain ⟨s, e, _, hs⟩ := DataW.trod_string Try.underlying9 (hc i hi).2.2.1
      simp only [List.cons.injEq, and_true] at e
      exact ⟨s, e, hs⟩
    have hn : ∀ i, i < m → ∃ z : Int, V1 i = .int .i64 z := fun i hi => by
      obtain ⟨z, e, _, _⟩ := DataW.trod_int Try.underlying3 (hc i hi).2.2.2
      simp only [List.cons.injEq, and_true] at e
      exact ⟨z, e⟩
    let S : Nat → ByteArray := fun i => match V0 i with | .string s => s | _ => ByteArray.mk #[]
    let Z : Nat → Int := fun i => match V1 i with | .int _ z => z | _ => 0
    refine ⟨some a, n, m, (List.range n).map fun i => (S i, Z i), rfl, ⟨by simp, fun hp => ?_⟩, hl, fun i => ?_, by unfold maxLen at hm; omega⟩
    · obtain ⟨b, off, spot⟩ := a
      have h0 := (hc 0 (by omega)).1
      have hspot : spot = none := by simpa [Addr.add] using World.cell?_spot h0
      subst hspot
      have hlt := World.block_lt_of_cell? W _ h0
      rw [addr_add] at hlt
      refine ⟨b, off, rfl, hlt, fun i hi => ?_⟩
      obtain ⟨s, es, _⟩ := hs i (by omega)
      obtain ⟨z, ez⟩ := hn i (by omega)
      have h1 := (hc i (by omega)).1
      have h2 := (hc i (by omega)).2.1
      rw [addr_add] at h1 h2
      have hg : ((List.range n).map fun i => (S i, Z i)).getD i atNil = (S i, Z i) := by
        rw [List.getD_eq_getElem?_getD, List.getElem?_map, List.getElem?_range hi]; rfl
      rw [hg, h1]
      refine ⟨?_, ?_⟩
      · rw [es]; simp only [S, es]
      · rw [show off + i * 2 + 1 = off + (i * 2 + 1) by omega, h2, ez]; simp only [Z, ez]
    · by_cases hi : i < n
      · have hg : ((List.range n).map fun i => (S i, Z i)).getD i atNil = (S i, Z i) := by
          rw [List.getD_eq_getElem?_getD, List.getElem?_map, List.getElem?_range hi]; rfl
        obtain ⟨s, es, hsz⟩ := hs i (by omega)
        rw [hg]
        simp only [S, es]
        unfold maxLen at hsz
        omega
      · rw [List.getD_eq_getElem?_getD, List.getElem?_eq_none (by simp; omega)]
        show 0 ≤ _
        omega
end Go.Proofs.Ythfdjebeblmmdaa

/- An argument that is a Span, opened. -/
namespace Go.Proofs.Ythfdjebeblmmdaa.Sp
open Go.ChangeShapes Go.WideShapes Go.ChangeAt Go.RowKit Go.Joins

set_option maxRecDepth 100000 in
theorem Try.cells3 : Try.prog.cellsOf 3 = 1 := by kernel_rfl
set_option maxRecDepth 100000 in
theorem Try.cells24 : Try.prog.cellsOf 25 = 2 := by kernel_rfl

set_option maxRecDepth 100000 in
theorem open_row {H : Type} {enc : TypeId × Value → H} {W : World} {fuel : Nat} {v : Value} {y : DataW H × List MemPlace} (h : DataW.trod enc Try.prog W 0 (fun _ => true) true fuel 23 [v] = some y) :
    ∃ (A : Option Addr) (n c : Nat) (zs : List Int), v = .slice A n c ∧ IntsAt W W.heap.size A n zs ∧ n ≤ c ∧ n ≤ 9223372036854775807 := by
  rcases open_ints Try.underlying23 Try.underlying3 Try.cells3 h with ⟨hcs, _⟩ | ⟨x, l, c, zs, hcs, _, hl, hm, hz, _, hcell, _⟩
  · simp only [List.cons.injEq, and_true] at hcs
    exact ⟨none, 0, 0, [], hcs, IntsAt.nil _ _ _, Nat.le_refl _, by omega⟩
  · simp only [List.cons.injEq, and_true] at hcs
    simp only [if_true] at hz
    unfold maxLen at hm
    refine ⟨some x, l, c, zs.take l, hcs, ⟨by rw [List.length_take]; omega, fun hp => ?_⟩, hl, by omega⟩
    obtain ⟨b, off, spot⟩ := x
    have h0 := hcell 0 (by omega)
    have hspot : spot = none := by simpa [Addr.add] using World.cell?_spot h0
    subst hspot
    have hlt := World.block_lt_of_cell? W _ h0
    rw [addr_add] at hlt
    refine ⟨b, off, rfl, hlt, fun k hk => ?_⟩
    have h1 := hcell k (by omega)
    rw [addr_add] at h1
    rw [h1]
    simp [List.getD_eq_getElem?_getD, hk]

set_option maxRecDepth 100000 in
theorem open_span {H : Type} {enc : TypeId × Value → H} {W : World} {base : Nat} {v : Value} {d : DataW H} {p : List MemPlace} (hv : Value.okWide Try.prog W .any base 25 v) (h : DataW.Trod enc Try.prog W 0 (fun _ => true) true 25 v d p) :
    ∃ (u : Int) (A : Option Addr) (n c : Nat) (zs : List Int), v = .agg #[.int .i64 u, .slice A n c] ∧ IntsAt W W.heap.size A n zs ∧ n ≤ c ∧ n ≤ 9223372036854775807 ∧ (Lit.int .i64 u).wf = true := by
  obtain ⟨c0, c1, y0, y1, m, rfl, rfl, rfl, hy0, hy1⟩ := open_agg2 Try.underlying25 (by kernel_rfl) Try.cells24 hv h
  obtain ⟨u, e0, _, wu⟩ := DataW.trod_int Try.underlying3 hy0
  simp only [List.cons.injEq, and_true] at e0
  subst e0
  obtain ⟨A, n, c, zs, rfl, hz, hnc, hn⟩ := open_row hy1
  exact ⟨u, A, n, c, zs, rfl, hz, hnc, hn, wu⟩
end Go.Proofs.Ythfdjebeblmmdaa.Sp
