/- Texts Vz Qz Ez, one behind the other. -/
import Derived.Test.YtpaiigminmakgaaHE
import Derived.ProofKit
import Derived.OpenShut
import Derived.Deep.SlicePairs
import Derived.Test.YtpaiigminmakgaaHF
import Derived.Lib.SmallJoins
import Derived.Deep.RegionHeld
import Derived.Test.YtpaiigminmakgaaHI
import Derived.Deep.Slices
/- An argument that is a row of ids and numbers, opened. -/
namespace Go.Proofs.Ytpaiigminmakgaa
open Go.ChangeShapes Go.WideShapes Go.ChangeAt Go.RowKit Go.Deep

set_option maxRecDepth 100000 in
theorem cellsST : Try.prog.cellsOf 9 = 1 := by kernel_rfl
set_option maxRecDepth 100000 in
theorem cellsIN : Try.prog.cellsOf 3 = 1 := by kernel_rfl

end Go.Proofs.Ytpaiigminmakgaa

/- An argument that is a Span, opened. -/
namespace Go.Proofs.Ytpaiigminmakgaa.Sp
open Go.ChangeShapes Go.WideShapes Go.ChangeAt Go.RowKit Go.Joins

set_option maxRecDepth 100000 in
theorem Try.cells3 : Try.prog.cellsOf 3 = 1 := by kernel_rfl
set_option maxRecDepth 100000 in
theorem Try.cells24 : Try.prog.cellsOf 86 = 2 := by kernel_rfl

set_option maxRecDepth 100000 in
theorem open_row {H : Type} {enc : TypeId × Value → H} {W : World} {fuel : Nat} {v : Value} {y : DataW H × List MemPlace} (h : DataW.trod enc Try.prog W 0 (fun _ => true) true fuel 68 [v] = some y) :
    ∃ (A : Option Addr) (n c : Nat) (zs : List Int), v = .slice A n c ∧ IntsAt W W.heap.size A n zs ∧ n ≤ c ∧ n ≤ 9223372036854775807 := by
  rcases open_ints Try.underlying68 Try.underlying3 Try.cells3 h with ⟨hcs, _⟩ | ⟨x, l, c, zs, hcs, _, hl, hm, hz, _, hcell, _⟩
  · simp only [List.cons.injEq, and_true] at hcs
    exact ⟨none, 0, 0, [], hcs, IntsAt.nil _ _ _, Nat.le_refl _, by omega⟩
  · simp only [List.cons.injEq, and_true] at hcs
    simp only [if_true] at hz
    unfold maxLen at hm
    refine ⟨some x, l, c, zs.take l, hcs, ⟨by rw [List.length_take]; omega, fun hp => ?_⟩, hl, by omega⟩
    obtain ⟨b, off, spot⟩ := x
    have h0 := hcell 0 (by omega)
    have hspot : spot = none := by simpa [Addr.add] using World.cell?_spot h0
    subst hspot
    have hlt := World.block_lt_of_cell? W _ h0
    rw [addr_add] at hlt
    refine ⟨b, off, rfl, hlt, fun k hk => ?_⟩
    have h1 := hcell k (by omega)
    rw [addr_add] at h1
    rw [h1]
    simp [List.getD_eq_getElem?_getD, hk]

set_option maxRecDepth 100000 in
theorem open_span {H : Type} {enc : TypeId × Value → H} {W : World} {base : Nat} {v : Value} {d : DataW H} {p : List MemPlace} (hv : Value.okWide Try.prog W .any base 86 v) (h : DataW.Trod enc Try.prog W 0 (fun _ => true) true 86 v d p) :
    ∃ (u : Int) (A : Option Addr) (n c : Nat) (zs : List Int), v = .agg #[.int .i64 u, .slice A n c] ∧ IntsAt W W.heap.size A n zs ∧ n ≤ c ∧ n ≤ 9223372036854775807 ∧ (Lit.int .i64 u).wf = true := by
  obtain ⟨c0, c1, y0, y1, m, rfl, rfl, rfl, hy0, hy1⟩ := open_agg2 Try.underlying86 (by kernel_rfl) Try.cells24 hv h
  obtain ⟨u, e0, _, wu⟩ := DataW.trod_int Try.underlying3 hy0
  simp only [List.cons.injEq, and_true] at e0
  subst e0
  obtain ⟨A, n, c, zs, rfl, hz, hnc, hn⟩ := open_row hy1
  exact ⟨u, A, n, c, zs, rfl, hz, hnc, hn, wu⟩
end Go.Proofs.Ytpaiigminmakgaa.Sp

/- A list of Rows that is handed in, opened. -/
namespace Go.Proofs.Ytpaiigminmakgaa
open Go.ChangeShapes Go.WideShapes Go.ChangeAt Go.RowKit Go.Deep Go.Joins

theorem list3V {α : Type} {l : List α} (h : l.length = 3) : ∃ a b c, l = [a, b, c] := by
  match l, h with
  | [a, b, c], _ => exact ⟨a, b, c, rfl⟩
theorem list2V {α : Type} {l : List α} (h : l.length = 2) : ∃ a b, l = [a, b] := by
  match l, h with
  | [a, b], _ => exact ⟨a, b, rfl⟩
set_option maxRecDepth 100000 in
theorem cellsRR : Try.prog.cellsOf 88 = 3 := by kernel_rfl
set_option maxRecDepth 100000 in
theorem cellsRS : Try.prog.cellsOf 86 = 2 := by kernel_rfl
set_option maxRecDepth 100000 in
theorem cellsIS : Try.prog.cellsOf 68 = 1 := by kernel_rfl
theorem kadds (b o i j : Nat) : ((⟨b, o, none⟩ : Addr).add i).add j = ⟨b, o + i + j, none⟩ := by rw [addr_add, addr_add]
set_option maxRecDepth 100000 in
theorem trod_row {H : Type} {enc : TypeId × Value → H} {W : World} {n : Nat} {cs : List Value} {x : DataW H × List MemPlace} (h : DataW.trod enc Try.prog W 0 (fun _ => true) true n 88 cs = some x) :
    ∃ r : Hd, cs = cellsH r ∧ Fine W W.heap.size r ∧ r.id.size ≤ 9223372036854775807 ∧ r.v.length ≤ 9223372036854775807 := by
  obtain ⟨y0, y1, n, _, hl, g0, g1⟩ := trod_struct2 Try.underlying88 h
  obtain ⟨c0, c1, c2, rfl⟩ := list3V (hl.trans cellsRR)
  dsimp only at g0 g1
  simp only [cellsST, cellsRS, List.drop_zero, List.drop_succ_cons, List.take_succ_cons, List.take_zero] at g0 g1
  obtain ⟨b, e0, _, hb⟩ := DataW.trod_string Try.underlying9 g0
  obtain ⟨z0, z1, n', _, hl2, k0, k1⟩ := trod_struct2 Try.underlying86 g1
  dsimp only at k0 k1
  simp only [cellsIN, cellsIS, List.drop_zero, List.drop_succ_cons, List.take_succ_cons, List.take_zero] at k0 k1
  obtain ⟨u, e1, _, _⟩ := DataW.trod_int Try.underlying3 k0
  obtain ⟨A, m, c, zs, e2, hz, hc, hm⟩ := Sp.open_row k1
  simp only [List.cons.injEq, and_true] at e0 e1
  subst e0 e1 e2
  have hl' := hz.1
  subst hl'
  exact ⟨⟨b, u, A, c, zs⟩, rfl, ⟨hz, hc⟩, by unfold maxLen at hb; exact Nat.le_trans hb (by omega), hm⟩
instance : Inhabited Hd := ⟨⟨⟨#[]⟩, 0, none, 0, []⟩⟩
set_option maxRecDepth 100000 in
theorem open_mat {H : Type} {enc : TypeId × Value → H} {W : World} {base : Nat} {v : Value} {d : DataW H} {p : List MemPlace} (hv : Value.okWide Try.prog W .any base 59 v) (h : DataW.Trod enc Try.prog W 0 (fun _ => true) true 59 v d p) :
    ∃ (A : Option Addr) (n c : Nat) (m : Mat), v = .slice A n c ∧ MatAt W W.heap.size A n m ∧ n ≤ c ∧ ShortM m ∧ c ≤ 9223372036854775807 := by
  obtain ⟨A, n, c, rfl⟩ := okWide_slice Try.underlying59 hv
  obtain ⟨fuel, hf⟩ := h
  rcases open_slice Try.underlying59 hf with ⟨hcs, _⟩ | ⟨a, len, cap, m, k, D, Pl, hcs, _, hl, hm, hmm, _, hi⟩
  · simp only [Value.cells, List.cons.injEq, and_true] at hcs
    injection hcs with e1 e2 e3
    subst e1 e2 e3
    exact ⟨none, 0, 0, [], rfl, MatAt.nil _ _ _, Nat.le_refl _, fun x hx => by simp at hx, by omega⟩
  · simp only [Value.cells, List.cons.injEq, and_true] at hcs
    injection hcs with e1 e2 e3
    subst e1 e2 e3
    simp only [if_true] at hmm
    subst hmm
    rw [cellsRR] at hi
    have key : ∀ i, i < m → ∃ r : Hd, (∀ j u, (cellsH r)[j]? = some u → W.cell? ((a.add (i * 3)).add j) = some u) ∧ Fine W W.heap.size r ∧ r.id.size ≤ 9223372036854775807 ∧ r.v.length ≤ 9223372036854775807 := fun i him => by
      obtain ⟨cs', hc, ht'⟩ := hi i him
      obtain ⟨r, hr, hf, hs⟩ := trod_row ht'
      obtain ⟨_, hcl, hat⟩ := World.cells?_some hc
      refine ⟨r, fun j u hu => ?_, hf, hs⟩
      have hj : j < 3 := by
        have := (List.getElem?_eq_some_iff.mp hu).1
        have e3 : (cellsH r).length = 3 := rfl
        omega
      rw [hat j hj, hr]
      exact hu
    obtain ⟨q, hq⟩ := choose_lt key
    obtain ⟨b, off, spot⟩ := a
    refine ⟨_, n, m, absH ((List.range n).map q), rfl, ⟨(List.range n).map q, rfl, ⟨by simp, fun hp => ?_⟩, fun r hr => ?_⟩, hl, fun x hx => ?_, by unfold maxLen at hm; omega⟩
    · have h0 := (hq 0 (by omega)).1 0 _ rfl
      have hspot : spot = none := by
        have := World.cell?_spot h0
        simpa [Addr.add] using this
      subst hspot
      have hlt := World.block_lt_of_cell? W _ h0
      rw [kadds] at hlt
      refine ⟨b, off, rfl, hlt, fun i hi' j u hu => ?_⟩
      have hi2 : i < n := by simpa using hi'
      have e : ((List.range n).map q)[i] = q i := by simp
      rw [e] at hu
      have := (hq i (by omega)).1 j u hu
      rwa [kadds] at this
    · simp only [List.mem_map, List.mem_range] at hr
      obtain ⟨i, hi, rfl⟩ := hr
      exact (hq i (by omega)).2.1
    · simp only [absH, List.mem_map, List.mem_range] at hx
      obtain ⟨r, ⟨i, hi, rfl⟩, rfl⟩ := hx
      exact (hq i (by omega)).2.2
end Go.Proofs.Ytpaiigminmakgaa
