/- A list of Rows that is handed in, opened. -/
import Derived.Test.YthfdjebeblmmdaaHEj
import Derived.Test.YthfdjebeblmmdaaHK4
import Derived.Deep.Slices
import Derived.Lib.SmallJoins
namespace Go.Proofs.Ythfdjebeblmmdaa
open Go.ChangeShapes Go.WideShapes Go.ChangeAt Go.RowKit Go.Deep Go.Joins

theorem list3 {α : Type} {l : List α} (h : l.length = 3) : ∃ a b c, l = [a, b, c] := by
  match l, h with
  | [a, b, c], _ => exact ⟨a, b, c, rfl⟩
theorem list2 {α : Type} {l : List α} (h : l.length = 2) : ∃ a b, l = [a, b] := by
  match l, h with
  | [a, b], _ => exact ⟨a, b, rfl⟩
set_option maxRecDepth 100000 in
theorem cellsRR : Try.prog.cellsOf 27 = 3 := by kernel_rfl
set_option maxRecDepth 100000 in
theorem cellsRS : Try.prog.cellsOf 25 = 2 := by kernel_rfl
set_option maxRecDepth 100000 in
theorem cellsIS : Try.prog.cellsOf 23 = 1 := by kernel_rfl
theorem kadds (b o i j : Nat) : ((⟨b, o, none⟩ : Addr).add i).add j = ⟨b, o + i + j, none⟩ := by rw [addr_add, addr_add]
set_option maxRecDepth 100000 in
theorem trod_row {H : Type} {enc : TypeId × Value → H} {W : World} {n : Nat} {cs : List Value} {x : DataW H × List MemPlace} (h : DataW.trod enc Try.prog W 0 (fun _ => true) true n 27 cs = some x) :
    ∃ r : Hd, cs = cellsH r ∧ Fine W W.heap.size r ∧ r.id.size ≤ 9223372036854775807 ∧ r.v.length ≤ 9223372036854775807 := by
  obtain ⟨y0, y1, n, _, hl, g0, g1⟩ := trod_struct2 Try.underlying27 h
  obtain ⟨c0, c1, c2, rfl⟩ := list3 (hl.trans cellsRR)
  dsimp only at g0 g1
  simp only [cellsST, cellsRS, List.drop_zero, List.drop_succ_cons, List.take_succ_cons, List.take_zero] at g0 g1
  obtain ⟨b, e0, _, hb⟩ := DataW.trod_string Try.underlying9 g0
  obtain ⟨z0, z1, n', _, hl2, k0, k1⟩ := trod_struct2 Try.underlying25 g1
  dsimp only at k0 k1
  simp only [cellsIN, cellsIS, List.drop_zero, List.drop_succ_cons, List.take_succ_cons, List.take_zero] at k0 k1
  obtain ⟨u, e1, _, _⟩ := DataW.trod_int Try.underlying3 k0
  obtain ⟨A, m, c, zs, e2, hz, hc, hm⟩ := Sp.open_row k1
  simp only [List.cons.injEq, and_true] at e0 e1
  subst e0 e1 e2
  have hl' := hz.1
  subst hl'
  exact ⟨⟨b, u, A, c, zs⟩, rfl, ⟨hz, hc⟩, by unfold maxLen at hb; exact Nat.le_trans hb (by omega), hm⟩
instance : Inhabited Hd := ⟨⟨⟨#[]⟩, 0, none, 0, []⟩⟩
set_option maxRecDepth 100000 in
theorem open_mat {H : Type} {enc : TypeId × Value → H} {W : World} {base : Nat} {v : Value} {d : DataW H} {p : List MemPlace} (hv : Value.okWide Try.prog W .any base 22 v) (h : DataW.Trod enc Try.prog W 0 (fun _ => true) true 22 v d p) :
    ∃ (A : Option Addr) (n c : Nat) (m : Mat), v = .slice A n c ∧ MatAt W W.heap.size A n m ∧ n ≤ c ∧ ShortM m ∧ c ≤ 9223372036854775807 := by
  obtain ⟨A, n, c, rfl⟩ := okWide_slice Try.underlying22 hv
  obtain ⟨fuel, hf⟩ := h
  rcases open_slice Try.underlying22 hf with ⟨hcs, _⟩ | ⟨a, len, cap, m, k, D, Pl, hcs, _, hl, hm, hmm, _, hi⟩
  · simp only [Value.cells, List.cons.injEq, and_true] at hcs
    injection hcs with e1 e2 e3
    subst e1 e2 e3
    exact ⟨none, 0, 0, [], rfl, MatAt.nil _ _ _, Nat.le_refl _, fun x hx => by simp at hx, by omega⟩
  · simp only [Value.cells, List.cons.injEq, and_true] at hcs
    injection hcs with e1 e2 e3
    subst e1 e2 e3
    simp only [if_true] at hmm
    subst hmm
    rw [cellsRR] at hi
    have key : ∀ i, i < m → ∃ r : Hd, (∀ j u, (cellsH r)[j]? = some u → W.cell? ((a.add (i * 3)).add j) = some u) ∧ Fine W W.heap.size r ∧ r.id.size ≤ 9223372036854775807 ∧ r.v.length ≤ 9223372036854775807 := fun i him => by
      obtain ⟨cs', hc, ht'⟩ := hi i him
      obtain ⟨r, hr, hf, hs⟩ := trod_row ht'
      obtain ⟨_, hcl, hat⟩ := World.cells?_some hc
      refine ⟨r, fun j u hu => ?_, hf, hs⟩
      have hj : j < 3 := by
        have := (List.getElem?_eq_some_iff.mp hu).1
        have e3 : (cellsH r).length = 3 := rfl
        omega
      rw [hat j hj, hr]
      exact hu
    obtain ⟨q, hq⟩ := choose_lt key
    obtain ⟨b, off, spot⟩ := a
    refine ⟨_, n, m, absH ((List.range n).map q), rfl, ⟨(List.range n).map q, rfl, ⟨by simp, fun hp => ?_⟩, fun r hr => ?_⟩, hl, fun x hx => ?_, by unfold maxLen at hm; omega⟩
    · have h0 := (hq 0 (by omega)).1 0 _ rfl
      have hspot : spot = none := by
        have := World.cell?_spot h0
        simpa [Addr.add] using this
      subst hspot
      have hlt := World.block_lt_of_cell? W _ h0
      rw [kadds] at hlt
      refine ⟨b, off, rfl, hlt, fun i hi' j u hu => ?_⟩
      have hi2 : i < n := by simpa using hi'
      have e : ((List.range n).map q)[i] = q i := by simp
      rw [e] at hu
      have := (hq i (by omega)).1 j u hu
      rwa [kadds] at this
    · simp only [List.mem_map, List.mem_range] at hr
      obtain ⟨i, hi, rfl⟩ := hr
      exact (hq i (by omega)).2.1
    · simp only [absH, List.mem_map, List.mem_range] at hx
      obtain ⟨r, ⟨i, hi, rfl⟩, rfl⟩ := hx
      exact (hq i (by omega)).2.2
end Go.Proofs.Ythfdjebeblmmdaa
