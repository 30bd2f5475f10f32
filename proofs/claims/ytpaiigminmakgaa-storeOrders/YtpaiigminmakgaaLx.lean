/- An argument that is a row of items, opened. -/
import Derived.Test.YtpaiigminmakgaaLy
import Derived.Test.YtpaiigminmakgaaGa
import Derived.Deep.Slices
namespace Go.Proofs.Ytpaiigminmakgaa
open Go.ChangeShapes Go.WideShapes Go.ChangeAt Go.RowKit Go.Deep

theorem adds (b o i j : Nat) : ((⟨b, o, none⟩ : Addr).add i).add j = ⟨b, o + i + j, none⟩ := by rw [radd, radd]
set_option maxRecDepth 100000 in
theorem open_items {H : Type} {enc : TypeId × Value → H} {W : World} {base : Nat} {v : Value} {d : DataW H} {p : List MemPlace} (hv : Value.okWide Try.prog W .any base 22 v) (h : DataW.Trod enc Try.prog W 0 (fun _ => true) true 22 v d p) :
    ∃ (A : Option Addr) (n c : Nat) (zs : List Itm), v = .slice A n c ∧ RowAt cellsI 9 W W.heap.size A n zs ∧ n ≤ c ∧ c ≤ 9223372036854775807 := by
  obtain ⟨A, n, c, rfl⟩ := okWide_slice Try.underlying22 hv
  obtain ⟨fuel, hf⟩ := h
  rcases open_slice Try.underlying22 hf with ⟨hcs, _⟩ | ⟨a, len, cap, m, k, D, Pl, hcs, _, hl, hm, hmm, _, hi⟩
  · simp only [Value.cells, List.cons.injEq, and_true] at hcs
    injection hcs with e1 e2 e3
    subst e1 e2 e3
    exact ⟨none, 0, 0, [], rfl, RowAt.nil, Nat.le_refl _, by omega⟩
  · simp only [Value.cells, List.cons.injEq, and_true] at hcs
    injection hcs with e1 e2 e3
    subst e1 e2 e3
    simp only [if_true] at hmm
    subst hmm
    rw [cellsRIT] at hi
    have key : ∀ i, i < m → ∃ z : Itm, ∀ j u, (cellsI z)[j]? = some u → W.cell? ((a.add (i * 9)).add j) = some u := fun i him => by
      obtain ⟨cs', hc, ht'⟩ := hi i him
      obtain ⟨z, hz, _, _⟩ := trod_item ht'
      obtain ⟨_, hcl, hat⟩ := World.cells?_some hc
      refine ⟨z, fun j u hu => ?_⟩
      have hj : j < 9 := by
        have := (List.getElem?_eq_some_iff.mp hu).1
        have e9 : (cellsI z).length = 9 := rfl
        omega
      rw [hat j hj, hz]
      exact hu
    let zs : List Itm := (List.range n).map fun i => if h : i < m then (key i h).choose else ⟨0, ⟨⟨#[]⟩, 0, 0⟩, false, 0, 0, ⟨#[]⟩, false⟩
    have hlen : zs.length = n := by simp [zs]
    obtain ⟨b, off, spot⟩ := a
    refine ⟨_, n, m, zs, rfl, ⟨hlen, fun hp => ?_⟩, hl, by unfold maxLen at hm; omega⟩
    have hspot : spot = none := by
      obtain ⟨z, hz⟩ := key 0 (by omega)
      have h0 := hz 0 _ rfl
      have := World.cell?_spot h0
      simpa [Addr.add] using this
    subst hspot
    refine ⟨b, off, rfl, ?_, fun i hi' j u hu => ?_⟩
    · obtain ⟨z, hz⟩ := key 0 (by omega)
      have h0 := hz 0 _ rfl
      have := World.block_lt_of_cell? W _ h0
      rwa [adds] at this
    · have him : i < m := by omega
      have e : zs[i] = (key i him).choose := by simp [zs, him]
      rw [e] at hu
      have := (key i him).choose_spec j u hu
      rwa [adds] at this
/-- The cells of one of them. -/
theorem item_cells {w : World} {b o : Nat} {z : Itm} (h : ∀ j u, (cellsI z)[j]? = some u → w.cell? ⟨b, o + j, none⟩ = some u) :
    w.cell? ⟨b, o, none⟩ = some (.int .i64 z.key) ∧ w.cell? ⟨b, o + 1, none⟩ = some (.string z.ver.id) ∧ w.cell? ⟨b, o + 2, none⟩ = some (.int .i64 z.ver.seq) ∧ w.cell? ⟨b, o + 3, none⟩ = some (.int .i64 z.ver.stamp) ∧ w.cell? ⟨b, o + 4, none⟩ = some (.bool z.dead) ∧ w.cell? ⟨b, o + 5, none⟩ = some (.int .i64 z.x) ∧ w.cell? ⟨b, o + 6, none⟩ = some (.int .i64 z.y) ∧ w.cell? ⟨b, o + 7, none⟩ = some (.string z.text) ∧ w.cell? ⟨b, o + 8, none⟩ = some (.bool z.held) :=
  ⟨h 0 _ rfl, h 1 _ rfl, h 2 _ rfl, h 3 _ rfl, h 4 _ rfl, h 5 _ rfl, h 6 _ rfl, h 7 _ rfl, h 8 _ rfl⟩
end Go.Proofs.Ytpaiigminmakgaa
