/- A list of Rows that is handed in, opened. -/
import Derived.Test.YtbbcifcdimfdgaaMh
import Derived.Test.YtbbcifcdimfdgaaVz
namespace Go.Proofs.Ytbbcifcdimfdgaa
open Go.ChangeShapes Go.WideShapes Go.ChangeAt Go.RowKit Go.Deep

theorem cellsRR : Try.prog.cellsOf 25 = 2 := by kernel_rfl
theorem cellsRV : Try.prog.cellsOf 23 = 1 := by kernel_rfl
theorem vec_of_trod {H : Type} {enc : TypeId × Value → H} {W : World} {fuel : Nat} {A : Option Addr} {n c : Nat} {x : DataW H × List MemPlace} (hf : DataW.trod enc Try.prog W 0 (fun _ => true) true fuel 23 [.slice A n c] = some x) :
    ∃ zs : List At, VecAt W W.heap.size A n zs ∧ n ≤ c ∧ Short zs := by
  rcases open_slice_pairs Try.underlying23 Try.underlying76 cellsRA rfl rfl cellsST cellsIN hf with ⟨hcs, _⟩ | ⟨a, len, cap, m, k, V0, V1, D0, D1, P0, P1, hcs, _, hl, hm, hmm, _, hc⟩
  · simp only [List.cons.injEq, and_true] at hcs
    injection hcs with e1 e2 e3
    subst e1 e2 e3
    exact ⟨[], VecAt.nil _ _ _, Nat.le_refl _, fun k => by show 0 ≤ _; omega⟩
  · simp only [List.cons.injEq, and_true] at hcs
    injection hcs with e1 e2 e3
    subst e1 e2 e3
    simp only [if_true] at hmm
    subst hmm
    have hs : ∀ i, i < m → ∃ s : ByteArray, V0 i = .string s ∧ s.size ≤ maxLen := fun i hi => by
      obtain ⟨s, e, _, hs⟩ := DataW.trod_string Try.underlying9 (hc i hi).2.2.1
      simp only [List.cons.injEq, and_true] at e
      exact ⟨s, e, hs⟩
    have hn : ∀ i, i < m → ∃ z : Int, V1 i = .int .i64 z := fun i hi => by
      obtain ⟨z, e, _, _⟩ := DataW.trod_int Try.underlying3 (hc i hi).2.2.2
      simp only [List.cons.injEq, and_true] at e
      exact ⟨z, e⟩
    let S : Nat → ByteArray := fun i => match V0 i with | .string s => s | _ => ByteArray.mk #[]
    let Z : Nat → Int := fun i => match V1 i with | .int _ z => z | _ => 0
    refine ⟨(List.range n).map fun i => (S i, Z i), ⟨by simp, fun hp => ?_⟩, hl, fun i => ?_⟩
    · obtain ⟨b, off, spot⟩ := a
      have h0 := (hc 0 (by omega)).1
      have hspot : spot = none := by simpa [Addr.add] using World.cell?_spot h0
      subst hspot
      have hlt := World.block_lt_of_cell? W _ h0
      rw [addr_add] at hlt
      refine ⟨b, off, rfl, hlt, fun i hi => ?_⟩
      obtain ⟨s, es, _⟩ := hs i (by omega)
      obtain ⟨z, ez⟩ := hn i (by omega)
      have h1 := (hc i (by omega)).1
      have h2 := (hc i (by omega)).2.1
      rw [addr_add] at h1 h2
      have hg : ((List.range n).map fun i => (S i, Z i)).getD i atNil = (S i, Z i) := by
        rw [List.getD_eq_getElem?_getD, List.getElem?_map, List.getElem?_range hi]; rfl
      rw [hg, h1]
      refine ⟨?_, ?_⟩
      · rw [es]; simp only [S, es]
      · rw [show off + i * 2 + 1 = off + (i * 2 + 1) by omega, h2, ez]; simp only [Z, ez]
    · by_cases hi : i < n
      · have hg : ((List.range n).map fun i => (S i, Z i)).getD i atNil = (S i, Z i) := by
          rw [List.getD_eq_getElem?_getD, List.getElem?_map, List.getElem?_range hi]; rfl
        obtain ⟨s, es, hsz⟩ := hs i (by omega)
        rw [hg]
        simp only [S, es]
        unfold maxLen at hsz
        omega
      · rw [List.getD_eq_getElem?_getD, List.getElem?_eq_none (by simp; omega)]
        show 0 ≤ _
        omega
instance : Inhabited Hd := ⟨⟨⟨#[]⟩, none, 0, []⟩⟩
theorem open_mat {H : Type} {enc : TypeId × Value → H} {W : World} {base : Nat} {v : Value} {d : DataW H} {p : List MemPlace} (hv : Value.okWide Try.prog W .any base 22 v) (h : DataW.Trod enc Try.prog W 0 (fun _ => true) true 22 v d p) :
    ∃ (A : Option Addr) (n c : Nat) (m : Mat), v = .slice A n c ∧ MatAt W W.heap.size A n m ∧ n ≤ c ∧ ShortM m ∧ c ≤ 9223372036854775807 := by
  obtain ⟨A, n, c, rfl⟩ := okWide_slice Try.underlying22 hv
  obtain ⟨fuel, hf⟩ := h
  rcases open_slice_pairs Try.underlying22 Try.underlying25 cellsRR rfl rfl cellsST cellsRV hf with ⟨hcs, _⟩ | ⟨a, len, cap, m, k, V0, V1, D0, D1, P0, P1, hcs, _, hl, hm, hmm, _, hc⟩
  · simp only [Value.cells, List.cons.injEq, and_true] at hcs
    injection hcs with e1 e2 e3
    subst e1 e2 e3
    exact ⟨none, 0, 0, [], rfl, MatAt.nil _ _ _, Nat.le_refl _, fun x hx => by simp at hx, by omega⟩
  · simp only [Value.cells, List.cons.injEq, and_true] at hcs
    injection hcs with e1 e2 e3
    subst e1 e2 e3
    simp only [if_true] at hmm
    subst hmm
    have each : ∀ i, i < m → ∃ r : Hd, V0 i = .string r.id ∧ V1 i = .slice r.A r.v.length r.c ∧ Fine W W.heap.size r ∧ r.id.size ≤ 9223372036854775807 ∧ Short r.v := fun i hi => by
      obtain ⟨s, e, _, hs⟩ := DataW.trod_string Try.underlying9 (hc i hi).2.2.1
      simp only [List.cons.injEq, and_true] at e
      have ht := (hc i hi).2.2.2
      have hsh : ∃ A' n' c', V1 i = .slice A' n' c' := by
        rcases open_slice_pairs Try.underlying23 Try.underlying76 cellsRA rfl rfl cellsST cellsIN ht with ⟨hcs, _⟩ | ⟨a, len, cap, _, _, _, _, _, _, _, _, hcs, _⟩
        · simp only [List.cons.injEq, and_true] at hcs
          exact ⟨none, 0, 0, hcs⟩
        · simp only [List.cons.injEq, and_true] at hcs
          exact ⟨some a, len, cap, hcs⟩
      obtain ⟨A', n', c', e1⟩ := hsh
      rw [e1] at ht
      obtain ⟨zs, hz, hc', hsz⟩ := vec_of_trod ht
      have hl' := hz.1
      subst hl'
      exact ⟨⟨s, A', c', zs⟩, e, e1, ⟨hz, hc'⟩, by unfold maxLen at hs; exact Nat.le_trans hs (by omega), hsz⟩
    obtain ⟨q, hq⟩ := choose_lt each
    refine ⟨some a, n, m, absH ((List.range n).map q), rfl, ⟨(List.range n).map q, rfl, ⟨by simp, fun hp => ?_⟩, fun r hr => ?_⟩, hl, fun x hx => ?_, by unfold maxLen at hm; omega⟩
    · obtain ⟨b, off, spot⟩ := a
      have h0 := (hc 0 (by omega)).1
      have hspot : spot = none := by simpa [Addr.add] using World.cell?_spot h0
      subst hspot
      have hlt := World.block_lt_of_cell? W _ h0
      rw [radd] at hlt
      refine ⟨b, off, rfl, hlt, fun i hi j u hu => ?_⟩
      have hi' : i < n := by simpa using hi
      have h1 := (hc i (by omega)).1
      have h2 := (hc i (by omega)).2.1
      rw [radd, (hq i (by omega)).1] at h1
      rw [radd, (hq i (by omega)).2.1] at h2
      have hj : j = 0 ∨ j = 1 := by have := (List.getElem?_eq_some_iff.mp hu).1; simp [cellsH] at this; omega
      rcases hj with rfl | rfl
      · simp [cellsH] at hu
        rw [Nat.add_zero, h1, ← hu]
      · simp [cellsH] at hu
        rw [show off + i * 2 + 1 = off + (i * 2 + 1) by omega, h2, ← hu]
    · simp only [List.mem_map, List.mem_range] at hr
      obtain ⟨i, hi, rfl⟩ := hr
      exact (hq i (by omega)).2.2.1
    · simp only [absH, List.mem_map, List.mem_range] at hx
      obtain ⟨r, ⟨i, hi, rfl⟩, rfl⟩ := hx
      exact (hq i (by omega)).2.2.2
end Go.Proofs.Ytbbcifcdimfdgaa
