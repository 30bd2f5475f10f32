/- Arguments that are steps, or a place, opened. -/
import Derived.Test.YtkklikkmpmlnbaaDoorZk
import Derived.ProofKit
import Derived.Deep.Strs
import Derived.OpenShut
import Derived.Lib.SmallJoins
import Derived.Deep.Slices
namespace Go.Proofs.YtkklikkmpmlnbaaDoor
open Go.ChangeShapes Go.WideShapes Go.ChangeAt Go.RowKit Go.Joins Go.Deep

theorem list4 {α : Type} {l : List α} (h : l.length = 4) : ∃ a b c d, l = [a, b, c, d] := by
  match l, h with
  | [a, b, c, d], _ => exact ⟨a, b, c, d, rfl⟩
theorem list2 {α : Type} {l : List α} (h : l.length = 2) : ∃ a b, l = [a, b] := by
  match l, h with
  | [a, b], _ => exact ⟨a, b, rfl⟩
theorem cellsRST : Tryd.prog.cellsOf 59 = 4 := by kernel_rfl
theorem cellsPL : Tryd.prog.cellsOf 37 = 2 := by kernel_rfl
theorem cellsINT : Tryd.prog.cellsOf 3 = 1 := by kernel_rfl
set_option maxRecDepth 100000 in
theorem trod_struct4 {P : Program} {H : Type} {enc : TypeId × Value → H} {W : World} {base fuel : Nat} {spare : Nat → Bool} {held : Bool} {t : TypeId} {f0 f1 f2 f3 : Field} {cs : List Value} {x : DataW H × List MemPlace} (ht : P.underlying t = some (.struct #[f0, f1, f2, f3])) (h : DataW.trod enc P W base spare held fuel t cs = some x) :
    ∃ y0 y1 y2 y3 n, cs.length = P.cellsOf t ∧ DataW.trod enc P W base spare held n f0.type ((cs.drop f0.offset).take (P.cellsOf f0.type)) = some y0 ∧
      DataW.trod enc P W base spare held n f1.type ((cs.drop f1.offset).take (P.cellsOf f1.type)) = some y1 ∧ DataW.trod enc P W base spare held n f2.type ((cs.drop f2.offset).take (P.cellsOf f2.type)) = some y2 ∧
      DataW.trod enc P W base spare held n f3.type ((cs.drop f3.offset).take (P.cellsOf f3.type)) = some y3 := by
  obtain ⟨xs, n, _, rfl, hl, hlen, hf⟩ := DataW.trod_struct ht h
  match xs, hlen with
  | [y0, y1, y2, y3], _ => exact ⟨y0, y1, y2, y3, n, hl, by simpa using hf 0 f0 rfl, by simpa using hf 1 f1 rfl, by simpa using hf 2 f2 rfl, by simpa using hf 3 f3 rfl⟩
set_option maxRecDepth 100000 in
theorem trod_step {H : Type} {enc : TypeId × Value → H} {W : World} {base n : Nat} {spare : Nat → Bool} {held : Bool} {cs : List Value} {x : DataW H × List MemPlace} (h : DataW.trod enc Tryd.prog W base spare held n 59 cs = some x) :
    ∃ r : RSt, cs = cellsR r := by
  obtain ⟨y0, y1, y2, y3, n, hl, g0, g1, g2, g3⟩ := trod_struct4 Tryd.underlying59 h
  obtain ⟨c0, c1, c2, c3, rfl⟩ := list4 (hl.trans cellsRST)
  dsimp only at g0 g1 g2 g3
  simp only [cellsINT, List.drop_zero, List.drop_succ_cons, List.take_succ_cons, List.take_zero] at g0 g1 g2 g3
  obtain ⟨a, e0, _, _⟩ := DataW.trod_int Tryd.underlying3 g0
  obtain ⟨b, e1, _, _⟩ := DataW.trod_int Tryd.underlying3 g1
  obtain ⟨c, e2, _, _⟩ := DataW.trod_int Tryd.underlying3 g2
  obtain ⟨d, e3, _, _⟩ := DataW.trod_int Tryd.underlying3 g3
  simp only [List.cons.injEq, and_true] at e0 e1 e2 e3
  subst e0 e1 e2 e3
  exact ⟨⟨a, b, c, d⟩, rfl⟩
set_option maxRecDepth 100000 in
theorem trod_place {H : Type} {enc : TypeId × Value → H} {W : World} {base n : Nat} {spare : Nat → Bool} {held : Bool} {cs : List Value} {x : DataW H × List MemPlace} (h : DataW.trod enc Tryd.prog W base spare held n 37 cs = some x) :
    ∃ (a s : Int), cs = [.int .i64 a, .int .i64 s] := by
  obtain ⟨y0, y1, n, _, hl, g0, g1⟩ := trod_struct2 Tryd.underlying37 h
  obtain ⟨c0, c1, rfl⟩ := list2 (hl.trans cellsPL)
  dsimp only at g0 g1
  simp only [cellsINT, List.drop_zero, List.drop_succ_cons, List.take_succ_cons, List.take_zero] at g0 g1
  obtain ⟨a, e0, _, _⟩ := DataW.trod_int Tryd.underlying3 g0
  obtain ⟨s, e1, _, _⟩ := DataW.trod_int Tryd.underlying3 g1
  simp only [List.cons.injEq, and_true] at e0 e1
  subst e0 e1
  exact ⟨a, s, rfl⟩
set_option maxRecDepth 100000 in
theorem open_place {H : Type} {enc : TypeId × Value → H} {W : World} {base : Nat} {v : Value} {d : DataW H} {p : List MemPlace} (hv : Value.okWide Tryd.prog W .any base 37 v) (h : DataW.Trod enc Tryd.prog W 0 (fun _ => true) true 37 v d p) :
    ∃ x y : Int, v = .agg #[.int .i64 x, .int .i64 y] := by
  obtain ⟨cs, rfl, hsz⟩ := okWide_struct Tryd.underlying37 hv
  obtain ⟨fuel, hf⟩ := h
  obtain ⟨a, s, hi⟩ := trod_place hf
  refine ⟨a, s, ?_⟩
  simp only [Value.cells] at hi
  obtain ⟨l⟩ := cs
  simp only at hi
  rw [hi]
theorem adds (b o i j : Nat) : ((⟨b, o, none⟩ : Addr).add i).add j = ⟨b, o + i + j, none⟩ := by rw [radd, radd]
set_option maxRecDepth 100000 in
theorem open_steps {H : Type} {enc : TypeId × Value → H} {W : World} {base : Nat} {v : Value} {d : DataW H} {p : List MemPlace} (hv : Value.okWide Tryd.prog W .any base 22 v) (h : DataW.Trod enc Tryd.prog W 0 (fun _ => true) true 22 v d p) :
    ∃ (A : Option Addr) (n c : Nat) (zs : List RSt), v = .slice A n c ∧ RowAt cellsR 4 W W.heap.size A n zs ∧ n ≤ c ∧ c ≤ 9223372036854775807 := by
  obtain ⟨A, n, c, rfl⟩ := okWide_slice Tryd.underlying22 hv
  obtain ⟨fuel, hf⟩ := h
  rcases open_slice Tryd.underlying22 hf with ⟨hcs, _⟩ | ⟨a, len, cap, m, k, D, Pl, hcs, _, hl, hm, hmm, _, hi⟩
  · simp only [Value.cells, List.cons.injEq, and_true] at hcs
    injection hcs with e1 e2 e3
    subst e1 e2 e3
    exact ⟨none, 0, 0, [], rfl, RowAt.nil, Nat.le_refl _, by omega⟩
  · simp only [Value.cells, List.cons.injEq, and_true] at hcs
    injection hcs with e1 e2 e3
    subst e1 e2 e3
    simp only [if_true] at hmm
    subst hmm
    rw [cellsRST] at hi
    have key : ∀ i, i < m → ∃ z : RSt, ∀ j u, (cellsR z)[j]? = some u → W.cell? ((a.add (i * 4)).add j) = some u := fun i him => by
      obtain ⟨cs', hc, ht'⟩ := hi i him
      obtain ⟨z, hz⟩ := trod_step ht'
      obtain ⟨_, hcl, hat⟩ := World.cells?_some hc
      refine ⟨z, fun j u hu => ?_⟩
      have hj : j < 4 := by
        have := (List.getElem?_eq_some_iff.mp hu).1
        have e9 : (cellsR z).length = 4 := rfl
        omega
      rw [hat j hj, hz]
      exact hu
    let zs : List RSt := (List.range n).map fun i => if h : i < m then (key i h).choose else ⟨0, 0, 0, 0⟩
    have hlen : zs.length = n := by simp [zs]
    obtain ⟨b, off, spot⟩ := a
    refine ⟨_, n, m, zs, rfl, ⟨hlen, fun hp => ?_⟩, hl, by unfold maxLen at hm; omega⟩
    have hspot : spot = none := by
      obtain ⟨z, hz⟩ := key 0 (by omega)
      have h0 := hz 0 _ rfl
      have := World.cell?_spot h0
      simpa [Addr.add] using this
    subst hspot
    refine ⟨b, off, rfl, ?_, fun i hi' j u hu => ?_⟩
    · obtain ⟨z, hz⟩ := key 0 (by omega)
      have h0 := hz 0 _ rfl
      have := World.block_lt_of_cell? W _ h0
      rwa [adds] at this
    · have him : i < m := by omega
      have e : zs[i] = (key i him).choose := by simp [zs, him]
      rw [e] at hu
      have := (key i him).choose_spec j u hu
      rwa [adds] at this
end Go.Proofs.YtkklikkmpmlnbaaDoor
