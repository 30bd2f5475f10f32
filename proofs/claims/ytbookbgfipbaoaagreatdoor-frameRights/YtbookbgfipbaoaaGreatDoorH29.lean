/- An argument that is a row of ids and numbers, opened. -/
import Derived.Test.YtbookbgfipbaoaaGreatDoorH4
import Derived.ProofKit
import Derived.OpenShut
import Derived.Deep.SlicePairs
import Derived.Test.YtbookbgfipbaoaaGreatDoorH28
import Derived.Test.YtbookbgfipbaoaaGreatDoorH5
import Derived.Lib.SmallJoins
import Derived.Deep.RegionHeld
import Derived.Test.YtbookbgfipbaoaaGreatDoorH22
import Derived.Deep.Slices
import Derived.Test.YtbookbgfipbaoaaGreatDoorH24
import Derived.Test.YtbookbgfipbaoaaGreatDoorH13
import Derived.Deep.Strs
import Derived.Test.YtbookbgfipbaoaaGreatDoorH8
import Derived.Test.YtbookbgfipbaoaaGreatDoorH25
import Derived.Test.YtbookbgfipbaoaaGreatDoorRows
import Derived.Test.YtbookbgfipbaoaaGreatDoorH12
import Derived.MakeChecks
import Derived.LaidMore
import Derived.Stop.LaidErr
import Derived.Shelf.Vars
import Derived.Lib.LaidTab
namespace Go.Proofs.YtbookbgfipbaoaaGreatDoor
open Go.ChangeShapes Go.WideShapes Go.ChangeAt Go.RowKit Go.Deep

set_option maxRecDepth 100000 in
theorem cellsRA : Tryz.prog.cellsOf 169 = 2 := by kernel_rfl
set_option maxRecDepth 100000 in
theorem cellsST : Tryz.prog.cellsOf 9 = 1 := by kernel_rfl
set_option maxRecDepth 100000 in
theorem cellsIN : Tryz.prog.cellsOf 3 = 1 := by kernel_rfl

set_option maxRecDepth 100000 in
theorem open_vec_at {H : Type} {enc : TypeId × Value → H} {W : World} {A : Option Addr} {n c : Nat} {d : DataW H} {p : List MemPlace} (h : DataW.Trod enc Tryz.prog W 0 (fun _ => true) true 24 (.slice A n c) d p) :
    ∃ (A' : Option Addr) (n' c' : Nat) (zs : List At), Value.slice A n c = .slice A' n' c' ∧ VecAt W W.heap.size A' n' zs ∧ n' ≤ c' ∧ Short zs ∧ n' ≤ 9223372036854775807 := by
  obtain ⟨fuel, hf⟩ := h
  rcases open_slice_pairs Tryz.underlying24 Tryz.underlying169 cellsRA rfl rfl cellsST cellsIN hf with ⟨hcs, _⟩ | ⟨a, len, cap, m, k, V0, V1, D0, D1, P0, P1, hcs, _, hl, hm, hmm, _, hc⟩
  · simp only [Value.cells, List.cons.injEq, and_true] at hcs
    injection hcs with e1 e2 e3
    subst e1 e2 e3
    exact ⟨none, 0, 0, [], rfl, VecAt.nil _ _ _, Nat.le_refl _, fun k => by show 0 ≤ _; omega, by omega⟩
  · simp only [Value.cells, List.cons.injEq, and_true] at hcs
    injection hcs with e1 e2 e3
    subst e1 e2 e3
    simp only [if_true] at hmm
    subst hmm
    have hs : ∀ i, i < m → ∃ s : ByteArray, V0 i = .string s ∧ s.size ≤ maxLen := fun i hi => by
      obtain ⟨s, e, _, hs⟩ := DataW.trod_string Tryz.underlying9 (hc i hi).2.2.1
      simp only [List.cons.injEq, and_true] at e
      exact ⟨s, e, hs⟩
    have hn : ∀ i, i < m → ∃ z : Int, V1 i = .int .i64 z := fun i hi => by
      obtain ⟨z, e, _, _⟩ := DataW.trod_int Tryz.underlying3 (hc i hi).2.2.2
      simp only [List.cons.injEq, and_true] at e
      exact ⟨z, e⟩
    let S : Nat → ByteArray := fun i => match V0 i with | .string s => s | _ => ByteArray.mk #[]
    let Z : Nat → Int := fun i => match V1 i with | .int _ z => z | _ => 0
    refine ⟨some a, n, m, (List.range n).map fun i => (S i, Z i), rfl, ⟨by simp, fun hp => ?_⟩, hl, fun i => ?_, by unfold maxLen at hm; omega⟩
    · obtain ⟨b, off, spot⟩ := a
      have h0 := (hc 0 (by omega)).1
      have hspot : spot = none := by simpa [Addr.add] using World.cell?_spot h0
      subst hspot
      have hlt := World.block_lt_of_cell? W _ h0
      rw [addr_add] at hlt
      refine ⟨b, off, rfl, hlt, fun i hi => ?_⟩
      obtain ⟨s, es, _⟩ := hs i (by omega)
      obtain ⟨z, ez⟩ := hn i (by omega)
      have h1 := (hc i (by omega)).1
      have h2 := (hc i (by omega)).2.1
      rw [addr_add] at h1 h2
      have hg : ((List.range n).map fun i => (S i, Z i)).getD i atNil = (S i, Z i) := by
        rw [List.getD_eq_getElem?_getD, List.getElem?_map, List.getElem?_range hi]; rfl
      rw [hg, h1]
      refine ⟨?_, ?_⟩
      · rw [es]; simp only [S, es]
      · rw [show off + i * 2 + 1 = off + (i * 2 + 1) by omega, h2, ez]; simp only [Z, ez]
    · by_cases hi : i < n
      · have hg : ((List.range n).map fun i => (S i, Z i)).getD i atNil = (S i, Z i) := by
          rw [List.getD_eq_getElem?_getD, List.getElem?_map, List.getElem?_range hi]; rfl
        obtain ⟨s, es, hsz⟩ := hs i (by omega)
        rw [hg]
        simp only [S, es]
        unfold maxLen at hsz
        omega
      · rw [List.getD_eq_getElem?_getD, List.getElem?_eq_none (by simp; omega)]
        show 0 ≤ _
        omega
end Go.Proofs.YtbookbgfipbaoaaGreatDoor

/- An argument that is a Span, opened. -/
namespace Go.Proofs.YtbookbgfipbaoaaGreatDoor.Sp
open Go.ChangeShapes Go.WideShapes Go.ChangeAt Go.RowKit Go.Joins

set_option maxRecDepth 100000 in
theorem Tryz.cells3 : Tryz.prog.cellsOf 3 = 1 := by kernel_rfl
set_option maxRecDepth 100000 in
theorem open_row {H : Type} {enc : TypeId × Value → H} {W : World} {fuel : Nat} {v : Value} {y : DataW H × List MemPlace} (h : DataW.trod enc Tryz.prog W 0 (fun _ => true) true fuel 65 [v] = some y) :
    ∃ (A : Option Addr) (n c : Nat) (zs : List Int), v = .slice A n c ∧ IntsAt W W.heap.size A n zs ∧ n ≤ c ∧ n ≤ 9223372036854775807 := by
  rcases open_ints Tryz.underlying65 Tryz.underlying3 Tryz.cells3 h with ⟨hcs, _⟩ | ⟨x, l, c, zs, hcs, _, hl, hm, hz, _, hcell, _⟩
  · simp only [List.cons.injEq, and_true] at hcs
    exact ⟨none, 0, 0, [], hcs, IntsAt.nil _ _ _, Nat.le_refl _, by omega⟩
  · simp only [List.cons.injEq, and_true] at hcs
    simp only [if_true] at hz
    unfold maxLen at hm
    refine ⟨some x, l, c, zs.take l, hcs, ⟨by rw [List.length_take]; omega, fun hp => ?_⟩, hl, by omega⟩
    obtain ⟨b, off, spot⟩ := x
    have h0 := hcell 0 (by omega)
    have hspot : spot = none := by simpa [Addr.add] using World.cell?_spot h0
    subst hspot
    have hlt := World.block_lt_of_cell? W _ h0
    rw [addr_add] at hlt
    refine ⟨b, off, rfl, hlt, fun k hk => ?_⟩
    have h1 := hcell k (by omega)
    rw [addr_add] at h1
    rw [h1]
    simp [List.getD_eq_getElem?_getD, hk]

end Go.Proofs.YtbookbgfipbaoaaGreatDoor.Sp

/- A list of Rows that is handed in, opened. -/
namespace Go.Proofs.YtbookbgfipbaoaaGreatDoor.Kn
open Go.ChangeShapes Go.WideShapes Go.ChangeAt Go.RowKit Go.Deep Go.Joins

theorem list3 {α : Type} {l : List α} (h : l.length = 3) : ∃ a b c, l = [a, b, c] := by
  match l, h with
  | [a, b, c], _ => exact ⟨a, b, c, rfl⟩
set_option maxRecDepth 100000 in
theorem cellsRR : Tryz.prog.cellsOf 69 = 3 := by kernel_rfl
set_option maxRecDepth 100000 in
theorem cellsRS : Tryz.prog.cellsOf 67 = 2 := by kernel_rfl
set_option maxRecDepth 100000 in
theorem cellsIS : Tryz.prog.cellsOf 65 = 1 := by kernel_rfl
theorem kadds (b o i j : Nat) : ((⟨b, o, none⟩ : Addr).add i).add j = ⟨b, o + i + j, none⟩ := by rw [addr_add, addr_add]
set_option maxRecDepth 100000 in
theorem trod_row {H : Type} {enc : TypeId × Value → H} {W : World} {n : Nat} {cs : List Value} {x : DataW H × List MemPlace} (h : DataW.trod enc Tryz.prog W 0 (fun _ => true) true n 69 cs = some x) :
    ∃ r : Hd, cs = cellsH r ∧ Fine W W.heap.size r ∧ r.id.size ≤ 9223372036854775807 ∧ r.v.length ≤ 9223372036854775807 := by
  obtain ⟨y0, y1, n, _, hl, g0, g1⟩ := trod_struct2 Tryz.underlying69 h
  obtain ⟨c0, c1, c2, rfl⟩ := list3 (hl.trans cellsRR)
  dsimp only at g0 g1
  simp only [cellsST, cellsRS, List.drop_zero, List.drop_succ_cons, List.take_succ_cons, List.take_zero] at g0 g1
  obtain ⟨b, e0, _, hb⟩ := DataW.trod_string Tryz.underlying9 g0
  obtain ⟨z0, z1, n', _, hl2, k0, k1⟩ := trod_struct2 Tryz.underlying67 g1
  dsimp only at k0 k1
  simp only [cellsIN, cellsIS, List.drop_zero, List.drop_succ_cons, List.take_succ_cons, List.take_zero] at k0 k1
  obtain ⟨u, e1, _, _⟩ := DataW.trod_int Tryz.underlying3 k0
  obtain ⟨A, m, c, zs, e2, hz, hc, hm⟩ := Sp.open_row k1
  simp only [List.cons.injEq, and_true] at e0 e1
  subst e0 e1 e2
  have hl' := hz.1
  subst hl'
  exact ⟨⟨b, u, A, c, zs⟩, rfl, ⟨hz, hc⟩, by unfold maxLen at hb; exact Nat.le_trans hb (by omega), hm⟩
instance : Inhabited Hd := ⟨⟨⟨#[]⟩, 0, none, 0, []⟩⟩
set_option maxRecDepth 100000 in
theorem open_mat_at {H : Type} {enc : TypeId × Value → H} {W : World} {A : Option Addr} {n c : Nat} {d : DataW H} {p : List MemPlace} (h : DataW.Trod enc Tryz.prog W 0 (fun _ => true) true 22 (.slice A n c) d p) :
    ∃ (A' : Option Addr) (n' c' : Nat) (m : Mat), Value.slice A n c = .slice A' n' c' ∧ MatAt W W.heap.size A' n' m ∧ n' ≤ c' ∧ ShortM m ∧ c' ≤ 9223372036854775807 := by
  obtain ⟨fuel, hf⟩ := h
  rcases open_slice Tryz.underlying22 hf with ⟨hcs, _⟩ | ⟨a, len, cap, m, k, D, Pl, hcs, _, hl, hm, hmm, _, hi⟩
  · simp only [Value.cells, List.cons.injEq, and_true] at hcs
    injection hcs with e1 e2 e3
    subst e1 e2 e3
    exact ⟨none, 0, 0, [], rfl, MatAt.nil _ _ _, Nat.le_refl _, fun x hx => by simp at hx, by omega⟩
  · simp only [Value.cells, List.cons.injEq, and_true] at hcs
    injection hcs with e1 e2 e3
    subst e1 e2 e3
    simp only [if_true] at hmm
    subst hmm
    rw [cellsRR] at hi
    have key : ∀ i, i < m → ∃ r : Hd, (∀ j u, (cellsH r)[j]? = some u → W.cell? ((a.add (i * 3)).add j) = some u) ∧ Fine W W.heap.size r ∧ r.id.size ≤ 9223372036854775807 ∧ r.v.length ≤ 9223372036854775807 := fun i him => by
      obtain ⟨cs', hc, ht'⟩ := hi i him
      obtain ⟨r, hr, hf, hs⟩ := trod_row ht'
      obtain ⟨_, hcl, hat⟩ := World.cells?_some hc
      refine ⟨r, fun j u hu => ?_, hf, hs⟩
      have hj : j < 3 := by
        have := (List.getElem?_eq_some_iff.mp hu).1
        have e3 : (cellsH r).length = 3 := rfl
        omega
      rw [hat j hj, hr]
      exact hu
    obtain ⟨q, hq⟩ := choose_lt key
    obtain ⟨b, off, spot⟩ := a
    refine ⟨_, n, m, absH ((List.range n).map q), rfl, ⟨(List.range n).map q, rfl, ⟨by simp, fun hp => ?_⟩, fun r hr => ?_⟩, hl, fun x hx => ?_, by unfold maxLen at hm; omega⟩
    · have h0 := (hq 0 (by omega)).1 0 _ rfl
      have hspot : spot = none := by
        have := World.cell?_spot h0
        simpa [Addr.add] using this
      subst hspot
      have hlt := World.block_lt_of_cell? W _ h0
      rw [kadds] at hlt
      refine ⟨b, off, rfl, hlt, fun i hi' j u hu => ?_⟩
      have hi2 : i < n := by simpa using hi'
      have e : ((List.range n).map q)[i] = q i := by simp
      rw [e] at hu
      have := (hq i (by omega)).1 j u hu
      rwa [kadds] at this
    · simp only [List.mem_map, List.mem_range] at hr
      obtain ⟨i, hi, rfl⟩ := hr
      exact (hq i (by omega)).2.1
    · simp only [absH, List.mem_map, List.mem_range] at hx
      obtain ⟨r, ⟨i, hi, rfl⟩, rfl⟩ := hx
      exact (hq i (by omega)).2.2
end Go.Proofs.YtbookbgfipbaoaaGreatDoor.Kn

/- A list of Rows that is handed in, opened. -/
namespace Go.Proofs.YtbookbgfipbaoaaGreatDoor.Mx
open Go.ChangeShapes Go.WideShapes Go.ChangeAt Go.RowKit Go.Deep

theorem cellsRR : Tryz.prog.cellsOf 64 = 2 := by kernel_rfl
theorem cellsRV : Tryz.prog.cellsOf 24 = 1 := by kernel_rfl
theorem vec_of_trod {H : Type} {enc : TypeId × Value → H} {W : World} {fuel : Nat} {A : Option Addr} {n c : Nat} {x : DataW H × List MemPlace} (hf : DataW.trod enc Tryz.prog W 0 (fun _ => true) true fuel 24 [.slice A n c] = some x) :
    ∃ zs : List At, VecAt W W.heap.size A n zs ∧ n ≤ c ∧ Short zs := by
  rcases open_slice_pairs Tryz.underlying24 Tryz.underlying169 cellsRA rfl rfl cellsST cellsIN hf with ⟨hcs, _⟩ | ⟨a, len, cap, m, k, V0, V1, D0, D1, P0, P1, hcs, _, hl, hm, hmm, _, hc⟩
  · simp only [List.cons.injEq, and_true] at hcs
    injection hcs with e1 e2 e3
    subst e1 e2 e3
    exact ⟨[], VecAt.nil _ _ _, Nat.le_refl _, fun k => by show 0 ≤ _; omega⟩
  · simp only [List.cons.injEq, and_true] at hcs
    injection hcs with e1 e2 e3
    subst e1 e2 e3
    simp only [if_true] at hmm
    subst hmm
    have hs : ∀ i, i < m → ∃ s : ByteArray, V0 i = .string s ∧ s.size ≤ maxLen := fun i hi => by
      obtain ⟨s, e, _, hs⟩ := DataW.trod_string Tryz.underlying9 (hc i hi).2.2.1
      simp only [List.cons.injEq, and_true] at e
      exact ⟨s, e, hs⟩
    have hn : ∀ i, i < m → ∃ z : Int, V1 i = .int .i64 z := fun i hi => by
      obtain ⟨z, e, _, _⟩ := DataW.trod_int Tryz.underlying3 (hc i hi).2.2.2
      simp only [List.cons.injEq, and_true] at e
      exact ⟨z, e⟩
    let S : Nat → ByteArray := fun i => match V0 i with | .string s => s | _ => ByteArray.mk #[]
    let Z : Nat → Int := fun i => match V1 i with | .int _ z => z | _ => 0
    refine ⟨(List.range n).map fun i => (S i, Z i), ⟨by simp, fun hp => ?_⟩, hl, fun i => ?_⟩
    · obtain ⟨b, off, spot⟩ := a
      have h0 := (hc 0 (by omega)).1
      have hspot : spot = none := by simpa [Addr.add] using World.cell?_spot h0
      subst hspot
      have hlt := World.block_lt_of_cell? W _ h0
      rw [addr_add] at hlt
      refine ⟨b, off, rfl, hlt, fun i hi => ?_⟩
      obtain ⟨s, es, _⟩ := hs i (by omega)
      obtain ⟨z, ez⟩ := hn i (by omega)
      have h1 := (hc i (by omega)).1
      have h2 := (hc i (by omega)).2.1
      rw [addr_add] at h1 h2
      have hg : ((List.range n).map fun i => (S i, Z i)).getD i atNil = (S i, Z i) := by
        rw [List.getD_eq_getElem?_getD, List.getElem?_map, List.getElem?_range hi]; rfl
      rw [hg, h1]
      refine ⟨?_, ?_⟩
      · rw [es]; simp only [S, es]
      · rw [show off + i * 2 + 1 = off + (i * 2 + 1) by omega, h2, ez]; simp only [Z, ez]
    · by_cases hi : i < n
      · have hg : ((List.range n).map fun i => (S i, Z i)).getD i atNil = (S i, Z i) := by
          rw [List.getD_eq_getElem?_getD, List.getElem?_map, List.getElem?_range hi]; rfl
        obtain ⟨s, es, hsz⟩ := hs i (by omega)
        rw [hg]
        simp only [S, es]
        unfold maxLen at hsz
        omega
      · rw [List.getD_eq_getElem?_getD, List.getElem?_eq_none (by simp; omega)]
        show 0 ≤ _
        omega
instance : Inhabited Hd := ⟨⟨⟨#[]⟩, none, 0, []⟩⟩
theorem open_mat_at {H : Type} {enc : TypeId × Value → H} {W : World} {A : Option Addr} {n c : Nat} {d : DataW H} {p : List MemPlace} (h : DataW.Trod enc Tryz.prog W 0 (fun _ => true) true 25 (.slice A n c) d p) :
    ∃ (A' : Option Addr) (n' c' : Nat) (m : Mat), Value.slice A n c = .slice A' n' c' ∧ MatAt W W.heap.size A' n' m ∧ n' ≤ c' ∧ ShortM m ∧ c' ≤ 9223372036854775807 := by
  obtain ⟨fuel, hf⟩ := h
  rcases open_slice_pairs Tryz.underlying25 Tryz.underlying64 cellsRR rfl rfl cellsST cellsRV hf with ⟨hcs, _⟩ | ⟨a, len, cap, m, k, V0, V1, D0, D1, P0, P1, hcs, _, hl, hm, hmm, _, hc⟩
  · simp only [Value.cells, List.cons.injEq, and_true] at hcs
    injection hcs with e1 e2 e3
    subst e1 e2 e3
    exact ⟨none, 0, 0, [], rfl, MatAt.nil _ _ _, Nat.le_refl _, fun x hx => by simp at hx, by omega⟩
  · simp only [Value.cells, List.cons.injEq, and_true] at hcs
    injection hcs with e1 e2 e3
    subst e1 e2 e3
    simp only [if_true] at hmm
    subst hmm
    have each : ∀ i, i < m → ∃ r : Hd, V0 i = .string r.id ∧ V1 i = .slice r.A r.v.length r.c ∧ Fine W W.heap.size r ∧ r.id.size ≤ 9223372036854775807 ∧ Short r.v := fun i hi => by
      obtain ⟨s, e, _, hs⟩ := DataW.trod_string Tryz.underlying9 (hc i hi).2.2.1
      simp only [List.cons.injEq, and_true] at e
      have ht := (hc i hi).2.2.2
      have hsh : ∃ A' n' c', V1 i = .slice A' n' c' := by
        rcases open_slice_pairs Tryz.underlying24 Tryz.underlying169 cellsRA rfl rfl cellsST cellsIN ht with ⟨hcs, _⟩ | ⟨a, len, cap, _, _, _, _, _, _, _, _, hcs, _⟩
        · simp only [List.cons.injEq, and_true] at hcs
          exact ⟨none, 0, 0, hcs⟩
        · simp only [List.cons.injEq, and_true] at hcs
          exact ⟨some a, len, cap, hcs⟩
      obtain ⟨A', n', c', e1⟩ := hsh
      rw [e1] at ht
      obtain ⟨zs, hz, hc', hsz⟩ := vec_of_trod ht
      have hl' := hz.1
      subst hl'
      exact ⟨⟨s, A', c', zs⟩, e, e1, ⟨hz, hc'⟩, by unfold maxLen at hs; exact Nat.le_trans hs (by omega), hsz⟩
    obtain ⟨q, hq⟩ := choose_lt each
    refine ⟨some a, n, m, absH ((List.range n).map q), rfl, ⟨(List.range n).map q, rfl, ⟨by simp, fun hp => ?_⟩, fun r hr => ?_⟩, hl, fun x hx => ?_, by unfold maxLen at hm; omega⟩
    · obtain ⟨b, off, spot⟩ := a
      have h0 := (hc 0 (by omega)).1
      have hspot : spot = none := by simpa [Addr.add] using World.cell?_spot h0
      subst hspot
      have hlt := World.block_lt_of_cell? W _ h0
      rw [radd] at hlt
      refine ⟨b, off, rfl, hlt, fun i hi j u hu => ?_⟩
      have hi' : i < n := by simpa using hi
      have h1 := (hc i (by omega)).1
      have h2 := (hc i (by omega)).2.1
      rw [radd, (hq i (by omega)).1] at h1
      rw [radd, (hq i (by omega)).2.1] at h2
      have hj : j = 0 ∨ j = 1 := by have := (List.getElem?_eq_some_iff.mp hu).1; simp [cellsH] at this; omega
      rcases hj with rfl | rfl
      · simp [cellsH] at hu
        rw [Nat.add_zero, h1, ← hu]
      · simp [cellsH] at hu
        rw [show off + i * 2 + 1 = off + (i * 2 + 1) by omega, h2, ← hu]
    · simp only [List.mem_map, List.mem_range] at hr
      obtain ⟨i, hi, rfl⟩ := hr
      exact (hq i (by omega)).2.2.1
    · simp only [absH, List.mem_map, List.mem_range] at hx
      obtain ⟨r, ⟨i, hi, rfl⟩, rfl⟩ := hx
      exact (hq i (by omega)).2.2.2
end Go.Proofs.YtbookbgfipbaoaaGreatDoor.Mx

/- Arguments that are steps, or a place, opened. -/
namespace Go.Proofs.YtbookbgfipbaoaaGreatDoor.Zo
open Go.ChangeShapes Go.WideShapes Go.ChangeAt Go.RowKit Go.Joins Go.Deep

theorem list4 {α : Type} {l : List α} (h : l.length = 4) : ∃ a b c d, l = [a, b, c, d] := by
  match l, h with
  | [a, b, c, d], _ => exact ⟨a, b, c, d, rfl⟩
theorem cellsRST : Tryz.prog.cellsOf 77 = 4 := by kernel_rfl
theorem cellsINT : Tryz.prog.cellsOf 3 = 1 := by kernel_rfl
set_option maxRecDepth 100000 in
theorem trod_struct4 {P : Program} {H : Type} {enc : TypeId × Value → H} {W : World} {base fuel : Nat} {spare : Nat → Bool} {held : Bool} {t : TypeId} {f0 f1 f2 f3 : Field} {cs : List Value} {x : DataW H × List MemPlace} (ht : P.underlying t = some (.struct #[f0, f1, f2, f3])) (h : DataW.trod enc P W base spare held fuel t cs = some x) :
    ∃ y0 y1 y2 y3 n, cs.length = P.cellsOf t ∧ DataW.trod enc P W base spare held n f0.type ((cs.drop f0.offset).take (P.cellsOf f0.type)) = some y0 ∧
      DataW.trod enc P W base spare held n f1.type ((cs.drop f1.offset).take (P.cellsOf f1.type)) = some y1 ∧ DataW.trod enc P W base spare held n f2.type ((cs.drop f2.offset).take (P.cellsOf f2.type)) = some y2 ∧
      DataW.trod enc P W base spare held n f3.type ((cs.drop f3.offset).take (P.cellsOf f3.type)) = some y3 := by
  obtain ⟨xs, n, _, rfl, hl, hlen, hf⟩ := DataW.trod_struct ht h
  match xs, hlen with
  | [y0, y1, y2, y3], _ => exact ⟨y0, y1, y2, y3, n, hl, by simpa using hf 0 f0 rfl, by simpa using hf 1 f1 rfl, by simpa using hf 2 f2 rfl, by simpa using hf 3 f3 rfl⟩
set_option maxRecDepth 100000 in
theorem trod_step {H : Type} {enc : TypeId × Value → H} {W : World} {base n : Nat} {spare : Nat → Bool} {held : Bool} {cs : List Value} {x : DataW H × List MemPlace} (h : DataW.trod enc Tryz.prog W base spare held n 77 cs = some x) :
    ∃ r : RSt, cs = cellsR r := by
  obtain ⟨y0, y1, y2, y3, n, hl, g0, g1, g2, g3⟩ := trod_struct4 Tryz.underlying77 h
  obtain ⟨c0, c1, c2, c3, rfl⟩ := list4 (hl.trans cellsRST)
  dsimp only at g0 g1 g2 g3
  simp only [cellsINT, List.drop_zero, List.drop_succ_cons, List.take_succ_cons, List.take_zero] at g0 g1 g2 g3
  obtain ⟨a, e0, _, _⟩ := DataW.trod_int Tryz.underlying3 g0
  obtain ⟨b, e1, _, _⟩ := DataW.trod_int Tryz.underlying3 g1
  obtain ⟨c, e2, _, _⟩ := DataW.trod_int Tryz.underlying3 g2
  obtain ⟨d, e3, _, _⟩ := DataW.trod_int Tryz.underlying3 g3
  simp only [List.cons.injEq, and_true] at e0 e1 e2 e3
  subst e0 e1 e2 e3
  exact ⟨⟨a, b, c, d⟩, rfl⟩
theorem adds (b o i j : Nat) : ((⟨b, o, none⟩ : Addr).add i).add j = ⟨b, o + i + j, none⟩ := by rw [radd, radd]
set_option maxRecDepth 100000 in
theorem open_steps_at {H : Type} {enc : TypeId × Value → H} {W : World} {A : Option Addr} {n c : Nat} {d : DataW H} {p : List MemPlace} (h : DataW.Trod enc Tryz.prog W 0 (fun _ => true) true 26 (.slice A n c) d p) :
    ∃ (A' : Option Addr) (n' c' : Nat) (zs : List RSt), Value.slice A n c = .slice A' n' c' ∧ RowAt cellsR 4 W W.heap.size A' n' zs ∧ n' ≤ c' ∧ c' ≤ 9223372036854775807 := by
  obtain ⟨fuel, hf⟩ := h
  rcases open_slice Tryz.underlying26 hf with ⟨hcs, _⟩ | ⟨a, len, cap, m, k, D, Pl, hcs, _, hl, hm, hmm, _, hi⟩
  · simp only [Value.cells, List.cons.injEq, and_true] at hcs
    injection hcs with e1 e2 e3
    subst e1 e2 e3
    exact ⟨none, 0, 0, [], rfl, RowAt.nil, Nat.le_refl _, by omega⟩
  · simp only [Value.cells, List.cons.injEq, and_true] at hcs
    injection hcs with e1 e2 e3
    subst e1 e2 e3
    simp only [if_true] at hmm
    subst hmm
    rw [cellsRST] at hi
    have key : ∀ i, i < m → ∃ z : RSt, ∀ j u, (cellsR z)[j]? = some u → W.cell? ((a.add (i * 4)).add j) = some u := fun i him => by
      obtain ⟨cs', hc, ht'⟩ := hi i him
      obtain ⟨z, hz⟩ := trod_step ht'
      obtain ⟨_, hcl, hat⟩ := World.cells?_some hc
      refine ⟨z, fun j u hu => ?_⟩
      have hj : j < 4 := by
        have := (List.getElem?_eq_some_iff.mp hu).1
        have e9 : (cellsR z).length = 4 := rfl
        omega
      rw [hat j hj, hz]
      exact hu
    let zs : List RSt := (List.range n).map fun i => if h : i < m then (key i h).choose else ⟨0, 0, 0, 0⟩
    have hlen : zs.length = n := by simp [zs]
    obtain ⟨b, off, spot⟩ := a
    refine ⟨_, n, m, zs, rfl, ⟨hlen, fun hp => ?_⟩, hl, by unfold maxLen at hm; omega⟩
    have hspot : spot = none := by
      obtain ⟨z, hz⟩ := key 0 (by omega)
      have h0 := hz 0 _ rfl
      have := World.cell?_spot h0
      simpa [Addr.add] using this
    subst hspot
    refine ⟨b, off, rfl, ?_, fun i hi' j u hu => ?_⟩
    · obtain ⟨z, hz⟩ := key 0 (by omega)
      have h0 := hz 0 _ rfl
      have := World.block_lt_of_cell? W _ h0
      rwa [adds] at this
    · have him : i < m := by omega
      have e : zs[i] = (key i him).choose := by simp [zs, him]
      rw [e] at hu
      have := (key i him).choose_spec j u hu
      rwa [adds] at this
end Go.Proofs.YtbookbgfipbaoaaGreatDoor.Zo

/- A row of items that is handed in, opened (over the rows' text Pa). -/
namespace Go.Proofs.YtbookbgfipbaoaaGreatDoor.By
open Go.ChangeShapes Go.WideShapes Go.ChangeAt Go.RowKit Go.Joins Go.Deep

theorem cellsVT : Tryz.prog.cellsOf 71 = 3 := by kernel_rfl
theorem list9 {α : Type} {l : List α} (h : l.length = 9) : ∃ a b c d e f g i j, l = [a, b, c, d, e, f, g, i, j] := by
  match l, h with
  | [a, b, c, d, e, f, g, i, j], _ => exact ⟨a, b, c, d, e, f, g, i, j, rfl⟩
theorem list3 {α : Type} {l : List α} (h : l.length = 3) : ∃ a b c, l = [a, b, c] := by
  match l, h with
  | [a, b, c], _ => exact ⟨a, b, c, rfl⟩
theorem list2 {α : Type} {l : List α} (h : l.length = 2) : ∃ a b, l = [a, b] := by
  match l, h with
  | [a, b], _ => exact ⟨a, b, rfl⟩
theorem cellsRIT : Tryz.prog.cellsOf 75 = 9 := by kernel_rfl
theorem cellsPL : Tryz.prog.cellsOf 73 = 2 := by kernel_rfl
theorem cellsINT : Tryz.prog.cellsOf 3 = 1 := by kernel_rfl
theorem cellsSTR : Tryz.prog.cellsOf 9 = 1 := by kernel_rfl
theorem cellsBL : Tryz.prog.cellsOf 4 = 1 := by kernel_rfl
theorem trod_struct6 {P : Program} {H : Type} {enc : TypeId × Value → H} {W : World} {base fuel : Nat} {spare : Nat → Bool} {held : Bool} {t : TypeId} {f0 f1 f2 f3 f4 f5 : Field} {cs : List Value} {x : DataW H × List MemPlace} (ht : P.underlying t = some (.struct #[f0, f1, f2, f3, f4, f5])) (h : DataW.trod enc P W base spare held fuel t cs = some x) :
    ∃ y0 y1 y2 y3 y4 y5 n, cs.length = P.cellsOf t ∧ DataW.trod enc P W base spare held n f0.type ((cs.drop f0.offset).take (P.cellsOf f0.type)) = some y0 ∧
      DataW.trod enc P W base spare held n f1.type ((cs.drop f1.offset).take (P.cellsOf f1.type)) = some y1 ∧ DataW.trod enc P W base spare held n f2.type ((cs.drop f2.offset).take (P.cellsOf f2.type)) = some y2 ∧
      DataW.trod enc P W base spare held n f3.type ((cs.drop f3.offset).take (P.cellsOf f3.type)) = some y3 ∧ DataW.trod enc P W base spare held n f4.type ((cs.drop f4.offset).take (P.cellsOf f4.type)) = some y4 ∧ DataW.trod enc P W base spare held n f5.type ((cs.drop f5.offset).take (P.cellsOf f5.type)) = some y5 := by
  obtain ⟨xs, n, _, rfl, hl, hlen, hf⟩ := DataW.trod_struct ht h
  match xs, hlen with
  | [y0, y1, y2, y3, y4, y5], _ => exact ⟨y0, y1, y2, y3, y4, y5, n, hl, by simpa using hf 0 f0 rfl, by simpa using hf 1 f1 rfl, by simpa using hf 2 f2 rfl, by simpa using hf 3 f3 rfl, by simpa using hf 4 f4 rfl, by simpa using hf 5 f5 rfl⟩
theorem trod_ver {H : Type} {enc : TypeId × Value → H} {W : World} {base n : Nat} {spare : Nat → Bool} {held : Bool} {cs : List Value} {x : DataW H × List MemPlace} (h : DataW.trod enc Tryz.prog W base spare held n 71 cs = some x) :
    ∃ (b : ByteArray) (a s : Int), cs = [.string b, .int .i64 a, .int .i64 s] ∧ b.size ≤ maxLen := by
  obtain ⟨y0, y1, y2, n, _, hl, g0, g1, g2⟩ := Go.Deep.trod_struct3 Tryz.underlying71 h
  obtain ⟨c0, c1, c2, rfl⟩ := list3 (hl.trans cellsVT)
  dsimp only at g0 g1 g2
  simp only [cellsINT, cellsSTR, List.drop_zero, List.drop_succ_cons, List.take_succ_cons, List.take_zero] at g0 g1 g2
  obtain ⟨b, e0, _, hb⟩ := DataW.trod_string Tryz.underlying9 g0
  obtain ⟨a, e1, _, _⟩ := DataW.trod_int Tryz.underlying3 g1
  obtain ⟨s, e2, _, _⟩ := DataW.trod_int Tryz.underlying3 g2
  simp only [List.cons.injEq, and_true] at e0 e1 e2
  subst e0 e1 e2
  exact ⟨b, a, s, rfl, hb⟩
theorem trod_place {H : Type} {enc : TypeId × Value → H} {W : World} {base n : Nat} {spare : Nat → Bool} {held : Bool} {cs : List Value} {x : DataW H × List MemPlace} (h : DataW.trod enc Tryz.prog W base spare held n 73 cs = some x) :
    ∃ (a s : Int), cs = [.int .i64 a, .int .i64 s] := by
  obtain ⟨y0, y1, n, _, hl, g0, g1⟩ := trod_struct2 Tryz.underlying73 h
  obtain ⟨c0, c1, rfl⟩ := list2 (hl.trans cellsPL)
  dsimp only at g0 g1
  simp only [cellsINT, List.drop_zero, List.drop_succ_cons, List.take_succ_cons, List.take_zero] at g0 g1
  obtain ⟨a, e0, _, _⟩ := DataW.trod_int Tryz.underlying3 g0
  obtain ⟨s, e1, _, _⟩ := DataW.trod_int Tryz.underlying3 g1
  simp only [List.cons.injEq, and_true] at e0 e1
  subst e0 e1
  exact ⟨a, s, rfl⟩
theorem trod_item {H : Type} {enc : TypeId × Value → H} {W : World} {base n : Nat} {spare : Nat → Bool} {held : Bool} {cs : List Value} {x : DataW H × List MemPlace} (h : DataW.trod enc Tryz.prog W base spare held n 75 cs = some x) :
    ∃ i : Itm, cs = cellsI i ∧ i.ver.id.size ≤ maxLen ∧ i.text.size ≤ maxLen := by
  obtain ⟨y0, y1, y2, y3, y4, y5, n, hl, g0, g1, g2, g3, g4, g5⟩ := trod_struct6 Tryz.underlying75 h
  obtain ⟨c0, c1, c2, c3, c4, c5, c6, c7, c8, rfl⟩ := list9 (hl.trans cellsRIT)
  dsimp only at g0 g1 g2 g3 g4 g5
  simp only [cellsINT, cellsSTR, cellsBL, cellsPL, cellsVT, List.drop_zero, List.drop_succ_cons, List.take_succ_cons, List.take_zero] at g0 g1 g2 g3 g4 g5
  obtain ⟨key, e0, _, _⟩ := DataW.trod_int Tryz.underlying3 g0
  obtain ⟨b, a, s, e1, hb⟩ := trod_ver g1
  obtain ⟨dead, e2, _⟩ := DataW.trod_bool Tryz.underlying4 g2
  obtain ⟨px, py, e3⟩ := trod_place g3
  obtain ⟨text, e4, _, ht⟩ := DataW.trod_string Tryz.underlying9 g4
  obtain ⟨hd, e5, _⟩ := DataW.trod_bool Tryz.underlying4 g5
  simp only [List.cons.injEq, and_true] at e0 e1 e2 e3 e4 e5
  obtain ⟨rfl, rfl, rfl⟩ := e1
  obtain ⟨rfl, rfl⟩ := e3
  subst e0 e2 e4 e5
  exact ⟨⟨key, ⟨b, a, s⟩, dead, px, py, text, hd⟩, rfl, hb, ht⟩
theorem adds (b o i j : Nat) : ((⟨b, o, none⟩ : Addr).add i).add j = ⟨b, o + i + j, none⟩ := by rw [addr_add, addr_add]
set_option maxRecDepth 100000 in
theorem open_items_at {H : Type} {enc : TypeId × Value → H} {W : World} {A : Option Addr} {n c : Nat} {d : DataW H} {p : List MemPlace} (h : DataW.Trod enc Tryz.prog W 0 (fun _ => true) true 27 (.slice A n c) d p) :
    ∃ (A' : Option Addr) (n' c' : Nat) (zs : List Itm), Value.slice A n c = .slice A' n' c' ∧ RowAt cellsI 9 W W.heap.size A' n' zs ∧ n' ≤ c' ∧ c' ≤ 9223372036854775807 := by
  obtain ⟨fuel, hf⟩ := h
  rcases open_slice Tryz.underlying27 hf with ⟨hcs, _⟩ | ⟨a, len, cap, m, k, D, Pl, hcs, _, hl, hm, hmm, _, hi⟩
  · simp only [Value.cells, List.cons.injEq, and_true] at hcs
    injection hcs with e1 e2 e3
    subst e1 e2 e3
    exact ⟨none, 0, 0, [], rfl, RowAt.nil, Nat.le_refl _, by omega⟩
  · simp only [Value.cells, List.cons.injEq, and_true] at hcs
    injection hcs with e1 e2 e3
    subst e1 e2 e3
    simp only [if_true] at hmm
    subst hmm
    rw [cellsRIT] at hi
    have key : ∀ i, i < m → ∃ z : Itm, ∀ j u, (cellsI z)[j]? = some u → W.cell? ((a.add (i * 9)).add j) = some u := fun i him => by
      obtain ⟨cs', hc, ht'⟩ := hi i him
      obtain ⟨z, hz, _, _⟩ := trod_item ht'
      obtain ⟨_, hcl, hat⟩ := World.cells?_some hc
      refine ⟨z, fun j u hu => ?_⟩
      have hj : j < 9 := by
        have := (List.getElem?_eq_some_iff.mp hu).1
        have e9 : (cellsI z).length = 9 := rfl
        omega
      rw [hat j hj, hz]
      exact hu
    let zs : List Itm := (List.range n).map fun i => if h : i < m then (key i h).choose else ⟨0, ⟨⟨#[]⟩, 0, 0⟩, false, 0, 0, ⟨#[]⟩, false⟩
    have hlen : zs.length = n := by simp [zs]
    obtain ⟨b, off, spot⟩ := a
    refine ⟨_, n, m, zs, rfl, ⟨hlen, fun hp => ?_⟩, hl, by unfold maxLen at hm; omega⟩
    have hspot : spot = none := by
      obtain ⟨z, hz⟩ := key 0 (by omega)
      have h0 := hz 0 _ rfl
      have := World.cell?_spot h0
      simpa [Addr.add] using this
    subst hspot
    refine ⟨b, off, rfl, ?_, fun i hi' j u hu => ?_⟩
    · obtain ⟨z, hz⟩ := key 0 (by omega)
      have h0 := hz 0 _ rfl
      have := World.block_lt_of_cell? W _ h0
      rwa [adds] at this
    · have him : i < m := by omega
      have e : zs[i] = (key i him).choose := by simp [zs, him]
      rw [e] at hu
      have := (key i him).choose_spec j u hu
      rwa [adds] at this
end Go.Proofs.YtbookbgfipbaoaaGreatDoor.By

/- A row of texts that is handed in, opened. -/
namespace Go.Proofs.YtbookbgfipbaoaaGreatDoor
open Go.ChangeShapes Go.WideShapes Go.ChangeAt Go.RowKit Go.Deep

theorem open_texts_at {H : Type} {enc : TypeId × Value → H} {W : World} {A : Option Addr} {n c : Nat} {d : DataW H} {p : List MemPlace} (h : DataW.Trod enc Tryz.prog W 0 (fun _ => true) true 23 (.slice A n c) d p) :
    ∃ (A' : Option Addr) (n' c' : Nat) (zs : List ByteArray), Value.slice A n c = .slice A' n' c' ∧ RowAt cellsT 1 W W.heap.size A' n' zs ∧ n' ≤ c' ∧ (∀ s ∈ zs, s.size ≤ 9223372036854775807) ∧ c' ≤ 9223372036854775807 := by
  obtain ⟨fuel, hf⟩ := h
  rcases Go.Deep.open_strs Tryz.underlying23 Tryz.underlying9 cellsST hf with ⟨hcs, _⟩ | ⟨x, l, c', m, Sx, hcs, _, hl, hm, hz, _, hcell⟩
  · simp only [Value.cells, List.cons.injEq, and_true] at hcs
    injection hcs with e1 e2 e3
    subst e1 e2 e3
    exact ⟨none, 0, 0, [], rfl, RowAt.nil, Nat.le_refl _, by simp, by omega⟩
  · simp only [Value.cells, List.cons.injEq, and_true] at hcs
    injection hcs with e1 e2 e3
    subst e1 e2 e3
    simp only [if_true] at hz
    unfold maxLen at hm hcell
    obtain ⟨b, off, spot⟩ := x
    refine ⟨_, n, c, (List.range n).map Sx, rfl, ⟨by simp, fun hp => ?_⟩, hl, fun z hz2 => ?_, by omega⟩
    · have h0 := (hcell 0 (by omega)).1
      have hspot : spot = none := by simpa [Addr.add] using World.cell?_spot h0
      subst hspot
      have hlt := World.block_lt_of_cell? W _ h0
      rw [radd] at hlt
      refine ⟨b, off, rfl, hlt, fun k hk j u hu => ?_⟩
      have hk' : k < n := by simpa using hk
      have hj : j = 0 := by have := (List.getElem?_eq_some_iff.mp hu).1; simp [cellsT] at this; exact this
      subst hj
      have h1 := (hcell k (by omega)).1
      rw [radd] at h1
      simp [cellsT] at hu
      rw [Nat.mul_one, Nat.add_zero, h1, ← hu]
    · simp only [List.mem_map, List.mem_range] at hz2
      obtain ⟨i, hi, rfl⟩ := hz2
      have := (hcell i (by omega)).2
      omega
end Go.Proofs.YtbookbgfipbaoaaGreatDoor

/- A Frame that is handed in, opened. -/
namespace Go.Proofs.YtbookbgfipbaoaaGreatDoor
open Go.ChangeShapes Go.WideShapes Go.ChangeAt Go.RowKit Go.Joins Go.Deep
set_option maxRecDepth 100000 in
theorem trod_struct12 {P : Program} {H : Type} {enc : TypeId × Value → H} {W : World} {base fuel : Nat} {spare : Nat → Bool} {held : Bool} {t : TypeId} {f0 f1 f2 f3 f4 f5 f6 f7 f8 f9 f10 f11 : Field} {cs : List Value} {x : DataW H × List MemPlace} (ht : P.underlying t = some (.struct #[f0, f1, f2, f3, f4, f5, f6, f7, f8, f9, f10, f11])) (h : DataW.trod enc P W base spare held fuel t cs = some x) :
    ∃ n, cs.length = P.cellsOf t ∧ (∃ y, DataW.trod enc P W base spare held n f0.type ((cs.drop f0.offset).take (P.cellsOf f0.type)) = some y) ∧ (∃ y, DataW.trod enc P W base spare held n f1.type ((cs.drop f1.offset).take (P.cellsOf f1.type)) = some y) ∧ (∃ y, DataW.trod enc P W base spare held n f2.type ((cs.drop f2.offset).take (P.cellsOf f2.type)) = some y) ∧ (∃ y, DataW.trod enc P W base spare held n f3.type ((cs.drop f3.offset).take (P.cellsOf f3.type)) = some y) ∧ (∃ y, DataW.trod enc P W base spare held n f4.type ((cs.drop f4.offset).take (P.cellsOf f4.type)) = some y) ∧ (∃ y, DataW.trod enc P W base spare held n f5.type ((cs.drop f5.offset).take (P.cellsOf f5.type)) = some y) ∧ (∃ y, DataW.trod enc P W base spare held n f6.type ((cs.drop f6.offset).take (P.cellsOf f6.type)) = some y) ∧ (∃ y, DataW.trod enc P W base spare held n f7.type ((cs.drop f7.offset).take (P.cellsOf f7.type)) = some y) ∧ (∃ y, DataW.trod enc P W base spare held n f8.type ((cs.drop f8.offset).take (P.cellsOf f8.type)) = some y) ∧ (∃ y, DataW.trod enc P W base spare held n f9.type ((cs.drop f9.offset).take (P.cellsOf f9.type)) = some y) ∧ (∃ y, DataW.trod enc P W base spare held n f10.type ((cs.drop f10.offset).take (P.cellsOf f10.type)) = some y) ∧ (∃ y, DataW.trod enc P W base spare held n f11.type ((cs.drop f11.offset).take (P.cellsOf f11.type)) = some y) := by
  obtain ⟨xs, n, _, rfl, hl, hlen, hf⟩ := DataW.trod_struct ht h
  match xs, hlen with
  | [y0, y1, y2, y3, y4, y5, y6, y7, y8, y9, y10, y11], _ => exact ⟨n, hl, ⟨y0, by simpa using hf 0 f0 rfl⟩, ⟨y1, by simpa using hf 1 f1 rfl⟩, ⟨y2, by simpa using hf 2 f2 rfl⟩, ⟨y3, by simpa using hf 3 f3 rfl⟩, ⟨y4, by simpa using hf 4 f4 rfl⟩, ⟨y5, by simpa using hf 5 f5 rfl⟩, ⟨y6, by simpa using hf 6 f6 rfl⟩, ⟨y7, by simpa using hf 7 f7 rfl⟩, ⟨y8, by simpa using hf 8 f8 rfl⟩, ⟨y9, by simpa using hf 9 f9 rfl⟩, ⟨y10, by simpa using hf 10 f10 rfl⟩, ⟨y11, by simpa using hf 11 f11 rfl⟩⟩
theorem list12 {α : Type} {l : List α} (h : l.length = 12) : ∃ c0 c1 c2 c3 c4 c5 c6 c7 c8 c9 c10 c11, l = [c0, c1, c2, c3, c4, c5, c6, c7, c8, c9, c10, c11] := by
  match l, h with
  | [c0, c1, c2, c3, c4, c5, c6, c7, c8, c9, c10, c11], _ => exact ⟨c0, c1, c2, c3, c4, c5, c6, c7, c8, c9, c10, c11, rfl⟩
theorem cellsRFR : Tryz.prog.cellsOf 29 = 12 := by kernel_rfl
theorem c12I : Tryz.prog.cellsOf 27 = 1 := by kernel_rfl
theorem c12K : Tryz.prog.cellsOf 22 = 1 := by kernel_rfl
theorem c12M : Tryz.prog.cellsOf 25 = 1 := by kernel_rfl
theorem c12T : Tryz.prog.cellsOf 23 = 1 := by kernel_rfl
theorem c12V : Tryz.prog.cellsOf 24 = 1 := by kernel_rfl
theorem c12Z : Tryz.prog.cellsOf 26 = 1 := by kernel_rfl
theorem c12b : Tryz.prog.cellsOf 4 = 1 := by kernel_rfl
theorem c12i : Tryz.prog.cellsOf 3 = 1 := by kernel_rfl
theorem c12s : Tryz.prog.cellsOf 9 = 1 := by kernel_rfl
theorem slice_of {P : Program} {H : Type} {enc : TypeId × Value → H} {W : World} {n t e : Nat} {c : Value} {y : DataW H × List MemPlace} (ht : P.underlying t = some (.slice e)) (h : DataW.trod enc P W 0 (fun _ => true) true n t [c] = some y) : ∃ A m c', c = .slice A m c' := by
  rcases open_slice ht h with ⟨hcs, _⟩ | ⟨a, len, cap, m, k, D, Pl, hcs, _⟩
  · simp only [List.cons.injEq, and_true] at hcs
    exact ⟨none, 0, 0, hcs⟩
  · simp only [List.cons.injEq, and_true] at hcs
    exact ⟨some a, len, cap, hcs⟩
/-- No list of it is longer than memory allows. -/
def LensF (f : Frm) : Prop := f.know.length ≤ 9223372036854775807 ∧ f.members.length ≤ 9223372036854775807 ∧ f.certs.length ≤ 9223372036854775807 ∧ f.rows.length ≤ 9223372036854775807 ∧ f.items.length ≤ 9223372036854775807 ∧ f.floor.length ≤ 9223372036854775807 ∧ f.zone.length ≤ 9223372036854775807
theorem matk_len {w : World} {B : Nat} {A : Option Addr} {n : Nat} {m : Kn.Mat} (h : Kn.MatAt w B A n m) : m.length = n := by obtain ⟨rs, e, h1, _⟩ := h; rw [← e]; simp only [Kn.absH, List.length_map]; exact h1.1
theorem matm_len {w : World} {B : Nat} {A : Option Addr} {n : Nat} {m : Mx.Mat} (h : Mx.MatAt w B A n m) : m.length = n := by obtain ⟨rs, e, h1, _⟩ := h; rw [← e]; simp only [Mx.absH, List.length_map]; exact h1.1
set_option maxRecDepth 100000 in
set_option maxHeartbeats 1000000 in
theorem trod_frame {H : Type} {enc : TypeId × Value → H} {W : World} {n : Nat} {cs : List Value} {x : DataW H × List MemPlace} (h : DataW.trod enc Tryz.prog W 0 (fun _ => true) true n 29 cs = some x) :
    ∃ (f : Frm) (l : Lie), Value.agg cs.toArray = frmV f l ∧ RFrmAt W W.heap.size f l ∧ RShort f ∧ LensF f := by
  obtain ⟨n, hl, ⟨y0, g0⟩, ⟨y1, g1⟩, ⟨y2, g2⟩, ⟨y3, g3⟩, ⟨y4, g4⟩, ⟨y5, g5⟩, ⟨y6, g6⟩, ⟨y7, g7⟩, ⟨y8, g8⟩, ⟨y9, g9⟩, ⟨y10, g10⟩, ⟨y11, g11⟩⟩ := trod_struct12 Tryz.underlying29 h
  obtain ⟨c0, c1, c2, c3, c4, c5, c6, c7, c8, c9, c10, c11, rfl⟩ := list12 (hl.trans cellsRFR)
  dsimp only at g0 g1 g2 g3 g4 g5 g6 g7 g8 g9 g10 g11
  simp only [c12I, c12K, c12M, c12T, c12V, c12Z, c12b, c12i, c12s, List.drop_zero, List.drop_succ_cons, List.take_succ_cons, List.take_zero] at g0 g1 g2 g3 g4 g5 g6 g7 g8 g9 g10 g11
  obtain ⟨a0, e0, _, _⟩ := DataW.trod_int Tryz.underlying3 g0
  obtain ⟨a1, e1, _, s1⟩ := DataW.trod_string Tryz.underlying9 g1
  obtain ⟨a2, e2, _, s2⟩ := DataW.trod_string Tryz.underlying9 g2
  obtain ⟨A3', n3', c3', rfl⟩ := slice_of Tryz.underlying22 g3
  obtain ⟨A3, n3, q3, a3, e3, z3, l3, s3, t3⟩ := Kn.open_mat_at ⟨n, g3⟩
  obtain ⟨a4, e4, _, _⟩ := DataW.trod_int Tryz.underlying3 g4
  obtain ⟨A5', n5', c5', rfl⟩ := slice_of Tryz.underlying23 g5
  obtain ⟨A5, n5, q5, a5, e5, z5, l5, s5, t5⟩ := open_texts_at ⟨n, g5⟩
  obtain ⟨A6', n6', c6', rfl⟩ := slice_of Tryz.underlying24 g6
  obtain ⟨A6, n6, q6, a6, e6, z6, l6, s6, t6⟩ : ∃ (A : Option Addr) (n c : Nat) (zs : List At), Value.slice A6' n6' c6' = .slice A n c ∧ VecAt W W.heap.size A n zs ∧ n ≤ c ∧ Short zs ∧ n ≤ 9223372036854775807 := open_vec_at ⟨n, g6⟩
  obtain ⟨A7', n7', c7', rfl⟩ := slice_of Tryz.underlying25 g7
  obtain ⟨A7, n7, q7, a7, e7, z7, l7, s7, t7⟩ := Mx.open_mat_at ⟨n, g7⟩
  obtain ⟨A8', n8', c8', rfl⟩ := slice_of Tryz.underlying26 g8
  obtain ⟨A8, n8, q8, a8, e8, z8, l8, t8⟩ := Zo.open_steps_at ⟨n, g8⟩
  obtain ⟨A9', n9', c9', rfl⟩ := slice_of Tryz.underlying27 g9
  obtain ⟨A9, n9, q9, a9, e9, z9, l9, t9⟩ := By.open_items_at ⟨n, g9⟩
  obtain ⟨a10, e10, _⟩ := DataW.trod_bool Tryz.underlying4 g10
  obtain ⟨A11', n11', c11', rfl⟩ := slice_of Tryz.underlying24 g11
  obtain ⟨A11, n11, q11, a11, e11, z11, l11, s11, t11⟩ : ∃ (A : Option Addr) (n c : Nat) (zs : List At), Value.slice A11' n11' c11' = .slice A n c ∧ VecAt W W.heap.size A n zs ∧ n ≤ c ∧ Short zs ∧ n ≤ 9223372036854775807 := open_vec_at ⟨n, g11⟩
  simp only [List.cons.injEq, and_true] at e0 e1 e2 e4 e10
  subst e0 e1 e2 e4 e10
  have u3 := matk_len z3
  have u7 := matm_len z7
  have u5 := z5.1
  have u6 := z6.1
  have u8 := z8.1
  have u9 := z9.1
  have u11 := z11.1
  subst u3
  subst u5
  subst u6
  subst u7
  subst u8
  subst u9
  subst u11
  refine ⟨⟨a0, a1, a2, a3, a4, a5, a6, a7, a8, a9, a10, a11⟩, ⟨A3, q3, A5, q5, A6, q6, A7, q7, A8, q8, A9, q9, A11, q11⟩, ?_, ⟨z3, z5, z6, z7, z8, z9, z11⟩, ⟨s3, s5, s6, s7, s11⟩, ?_⟩
  · rw [e3, e5, e6, e7, e8, e9, e11]
    rfl
  · unfold LensF
    simp only
    omega
set_option maxRecDepth 100000 in
theorem open_frame {H : Type} {enc : TypeId × Value → H} {W : World} {base : Nat} {v : Value} {d : DataW H} {p : List MemPlace} (hv : Value.okWide Tryz.prog W .any base 29 v) (h : DataW.Trod enc Tryz.prog W 0 (fun _ => true) true 29 v d p) :
    ∃ (f : Frm) (l : Lie), v = frmV f l ∧ RFrmAt W W.heap.size f l ∧ RShort f ∧ LensF f := by
  obtain ⟨cs, rfl, hsz⟩ := okWide_struct Tryz.underlying29 hv
  obtain ⟨fuel, hf⟩ := h
  obtain ⟨f, l, e, h1⟩ := trod_frame hf
  refine ⟨f, l, ?_, h1⟩
  simp only [Value.cells] at e
  rw [← e]
end Go.Proofs.YtbookbgfipbaoaaGreatDoor

/- FrameRights, walked. -/
namespace Go.Proofs.YtbookbgfipbaoaaGreatDoor
open Go.RowKit

/-- A value that is that Frame, its lists in memory. -/
def IsFrm (f : Frm) (v : Value) (W : World) : Prop := ∃ l, v = frmV f l ∧ FrmAt W W.heap.size f l
theorem to12_is (f : Frm) (h : Lie) (B : Nat) (w : World) (hB : B ≤ w.heap.size) (ha : RFrmAt w B f h) (na : FewF f) :
    Calls Tryz.prog 11 #[frmV f h] w fun e w' => ∃ v, e = .returned v ∧ IsFrm f v w' ∧ Below w.heap.size w w' :=
  (to12_any f h B w hB ha na).mono fun _ _ ⟨l, e, h1, h2⟩ => ⟨_, e, ⟨l, rfl, h1⟩, h2⟩
theorem right12_is {f : Frm} {v : Value} (w : World) (hv : IsFrm f v w) (na : FewF f) : Calls Tryz.prog 10 #[v] w fun e w' => e = .returned (.bool (rightFrm f)) ∧ Below w.heap.size w w' := by
  obtain ⟨l, rfl, h1⟩ := hv
  exact right12_any f l w.heap.size w (Nat.le_refl _) h1 na
theorem put12_is {f : Frm} {v : Value} (w : World) (hv : IsFrm f v w) (na : FewF f) (hg : Zo.Glob w) : Calls Tryz.prog 14 #[v] w (By.OwnBytes (frmB f) w) := by
  obtain ⟨l, rfl, h1⟩ := hv
  exact put12_any f l w.heap.size w (Nat.le_refl _) h1 na hg
set_option maxRecDepth 100000 in
set_option maxHeartbeats 8000000 in
theorem frameRights_walk (f : Frm) (h : Lie) (w : World) (ha : RFrmAt w w.heap.size f h) (ns : RShort f) (hn : LensF f) (hg : Zo.Glob w) :
    Calls Tryz.prog 3 #[frmV f h] w fun e w' => e = .returned (.bool true) ∧ Below w.heap.size w w' := by
  have HN : Hid (∀ W, Below w.heap.size w W → Calls Tryz.prog 8 #[frmV f h] W fun e w' => e = .returned (.bool (few12 f)) ∧ Below W.heap.size W w') := fun W hb => few12_any f h w.heap.size W hb.size (ha.keep hb) hn
  have HTD : Hid (∀ W, Below w.heap.size w W → Calls Tryz.prog 9 #[] W fun e w' => e = .returned (.bool true) ∧ Below W.heap.size W w') := fun W hb => told12_any W (hg.keep hb hg.big) (Nat.le_trans hg.big hb.size)
  have HTO : Hid (few12 f = true → ∀ W, Below w.heap.size w W → Calls Tryz.prog 11 #[frmV f h] W fun e w' => ∃ v, e = .returned v ∧ IsFrm f v w' ∧ Below W.heap.size W w') := fun hf W hb => to12_is f h w.heap.size W hb.size (ha.keep hb) (few_of hf)
  have HR : Hid (few12 f = true → ∀ (W : World) (v : Value), IsFrm f v W → Calls Tryz.prog 10 #[v] W fun e w' => e = .returned (.bool (rightFrm f)) ∧ Below W.heap.size W w') := fun hf W v hv => right12_is W hv (few_of hf)
  have HRR : Hid (few12 f = true → ∀ W, Below w.heap.size w W → Calls Tryz.prog 12 #[frmV f h] W fun e w' => e = .returned (.bool (rightFrm f)) ∧ Below W.heap.size W w') := fun hf W hb => rright12_any f h w.heap.size W hb.size (ha.keep hb) (few_of hf) ns
  have HP : Hid (few12 f = true → ∀ (W : World) (v : Value), Below w.heap.size w W → IsFrm f v W → Calls Tryz.prog 14 #[v] W (By.OwnBytes (frmB f) W)) := fun hf W v hb hv => put12_is W hv (few_of hf) (hg.keep hb hg.big)
  have HRP : Hid (few12 f = true → ∀ W, Below w.heap.size w W → Calls Tryz.prog 15 #[frmV f h] W (RP W.heap.size (frmB f) W)) := fun hf W hb => rput12_any f h w.heap.size W hb.size (ha.keep hb) (few_of hf) ns
  generalize IsFrm f = IF at *
  generalize rightFrm f = R at *
  generalize frmB f = P at *
  generalize few12 f = q at *
  clear ha ns hn hg
  unfold frmV at *
  obtain ⟨p1, p2, p3, p4, p5, p6, p7, p8, p9, p10, p11, p12⟩ := f
  simp only at HN HTD HTO HR HRR HP HRP ⊢
  go_enter Tryz.func3, Tryz.ntmps3
  go_upto_region 1 with fail
  have HKB : Hid (Blk (w.alloc (.cells #[.int .i64 p1, .string p2, .string p3, .slice h.kA p4.length h.kc, .int .i64 p5, .slice h.mA p6.length h.mc, .slice h.cA p7.length h.cc, .slice h.rA p8.length h.rc, .slice h.zA p9.length h.zc, .slice h.iA p10.length h.ic, .bool p11, .slice h.fA p12.length h.fc] 29)) w.heap.size [.int .i64 p1, .string p2, .string p3, .slice h.kA p4.length h.kc, .int .i64 p5, .slice h.mA p6.length h.mc, .slice h.cA p7.length h.cc, .slice h.rA p8.length h.rc, .slice h.zA p9.length h.zc, .slice h.iA p10.length h.ic, .bool p11, .slice h.fA p12.length h.fc]) := Blk.new w [.int .i64 p1, .string p2, .string p3, .slice h.kA p4.length h.kc, .int .i64 p5, .slice h.mA p6.length h.mc, .slice h.cA p7.length h.cc, .slice h.rA p8.length h.rc, .slice h.zA p9.length h.zc, .slice h.iA p10.length h.ic, .bool p11, .slice h.fA p12.length h.fc] 29
  have HB : Hid (Below w.heap.size w (w.alloc (.cells #[.int .i64 p1, .string p2, .string p3, .slice h.kA p4.length h.kc, .int .i64 p5, .slice h.mA p6.length h.mc, .slice h.cA p7.length h.cc, .slice h.rA p8.length h.rc, .slice h.zA p9.length h.zc, .slice h.iA p10.length h.ic, .bool p11, .slice h.fA p12.length h.fc] 29))) := (Below.refl _ _).alloc (Nat.le_refl _) _
  generalize (w.alloc (.cells #[.int .i64 p1, .string p2, .string p3, .slice h.kA p4.length h.kc, .int .i64 p5, .slice h.mA p6.length h.mc, .slice h.cA p7.length h.cc, .slice h.rA p8.length h.rc, .slice h.zA p9.length h.zc, .slice h.iA p10.length h.ic, .bool p11, .slice h.fA p12.length h.fc] 29)) = W0 at *
  obtain ⟨k0, k1, k2, k3, k4, k5, k6, k7, k8, k9, k10, k11⟩ := HKB.out.cs
  go_wp2_with fail
  clear k0 k1 k2 k3 k4 k5 k6 k7 k8 k9 k10 k11
  refine (HN.out _ HB.out).mono ?_
  rintro e W1 ⟨rfl, hb⟩
  replace HKB := Lib.hid (HKB.out.below hb)
  replace HB := Lib.hid (HB.out.trans (hb.mono HB.out.size))
  clear hb HN
  cases q
  · skip
    go_wp2_with fail
    refine (HTD.out _ HB.out).mono ?_
    rintro e W2 ⟨rfl, hb⟩
    replace HB := Lib.hid (HB.out.trans (hb.mono HB.out.size))
    clear hb
    go_wp2
    go_ret
    exact ⟨rfl, HB.out⟩
  replace HTO := Lib.hid (HTO.out rfl)
  replace HR := Lib.hid (HR.out rfl)
  replace HRR := Lib.hid (HRR.out rfl)
  replace HP := Lib.hid (HP.out rfl)
  replace HRP := Lib.hid (HRP.out rfl)
  obtain ⟨k0, k1, k2, k3, k4, k5, k6, k7, k8, k9, k10, k11⟩ := HKB.out.cs
  go_upto_region 3 with fail
  refine wp_region_held_drew (S := fun w' => w'.cell? ⟨w.heap.size, 0, none⟩ = some (.int .i64 p1) ∧ w'.cell? ⟨w.heap.size, 1, none⟩ = some (.string p2) ∧ w'.cell? ⟨w.heap.size, 2, none⟩ = some (.string p3) ∧ w'.cell? ⟨w.heap.size, 3, none⟩ = some (.slice h.kA p4.length h.kc) ∧ w'.cell? ⟨w.heap.size, 4, none⟩ = some (.int .i64 p5) ∧ w'.cell? ⟨w.heap.size, 5, none⟩ = some (.slice h.mA p6.length h.mc) ∧ w'.cell? ⟨w.heap.size, 6, none⟩ = some (.slice h.cA p7.length h.cc) ∧ w'.cell? ⟨w.heap.size, 7, none⟩ = some (.slice h.rA p8.length h.rc) ∧ w'.cell? ⟨w.heap.size, 8, none⟩ = some (.slice h.zA p9.length h.zc) ∧ w'.cell? ⟨w.heap.size, 9, none⟩ = some (.slice h.iA p10.length h.ic) ∧ w'.cell? ⟨w.heap.size, 10, none⟩ = some (.bool p11) ∧ w'.cell? ⟨w.heap.size, 11, none⟩ = some (.slice h.fA p12.length h.fc)) (by kernel_rfl) ⟨k0, k1, k2, k3, k4, k5, k6, k7, k8, k9, k10, k11⟩ (fun hHeld => ?_)
  refine wpAnyH_ready (rs := [0]) (by kernel_rfl) (by simp) ?_
  refine ac (fun K hK => ?_) AllReadyH.nil
  go_simp
  go_at_call 9
  refine (HTD.out _ (by exact Zo.below_drewish HB.out)).mono ?_
  rintro e u0 ⟨rfl, hb⟩
  replace hb := Kn.below_via (Below.refl W1.heap.size W1) hb (Nat.le_refl _) ⟨rfl, rfl, rfl, rfl⟩
  clear k0 k1 k2 k3 k4 k5 k6 k7 k8 k9 k10 k11
  replace HKB := Lib.hid (HKB.out.below hb)
  obtain ⟨k0, k1, k2, k3, k4, k5, k6, k7, k8, k9, k10, k11⟩ := HKB.out.cs
  replace HB := Lib.hid (HB.out.trans (hb.mono HB.out.size))
  clear hb
  refine hK.out _ _ ⟨k0, k1, k2, k3, k4, k5, k6, k7, k8, k9, k10, k11⟩ (fun hHeld => ?_)
  clear hK K
  try simp only [Act.put, List.setIfInBounds_toArray, List.set_cons_zero, List.set_cons_succ]
  refine tk 1 ?_
  refine tk 2 ?_
  refine tk 5 ?_
  refine wpAnyH_ready (rs := [3]) (by kernel_rfl) (by simp) ?_
  refine ac (fun K hK => ?_) AllReadyH.nil
  go_simp
  go_at_call 11
  refine (HTO.out _ (by exact HB.out)).mono ?_
  rintro e u3 ⟨v1, rfl, hv, hb⟩
  replace hb := Kn.below_via (Below.refl u0.heap.size u0) hb (Nat.le_refl _) ⟨rfl, rfl, rfl, rfl⟩
  have HV1 := Lib.hid hv
  clear hv
  clear k0 k1 k2 k3 k4 k5 k6 k7 k8 k9 k10 k11
  replace HKB := Lib.hid (HKB.out.below hb)
  obtain ⟨k0, k1, k2, k3, k4, k5, k6, k7, k8, k9, k10, k11⟩ := HKB.out.cs
  replace HB := Lib.hid (HB.out.trans (hb.mono HB.out.size))
  clear hb
  refine hK.out _ _ ⟨k0, k1, k2, k3, k4, k5, k6, k7, k8, k9, k10, k11⟩ (fun hHeld => ?_)
  clear hK K
  try simp only [Act.put, List.setIfInBounds_toArray, List.set_cons_zero, List.set_cons_succ]
  refine wpAnyH_ready (rs := [4]) (by kernel_rfl) (by simp) ?_
  refine ac (fun K hK => ?_) AllReadyH.nil
  go_simp
  go_at_call 10
  refine (HR.out _ v1 (by exact HV1.out)).mono ?_
  rintro e u4 ⟨rfl, hb⟩
  replace hb := Kn.below_via (Below.refl u3.heap.size u3) hb (Nat.le_refl _) ⟨rfl, rfl, rfl, rfl⟩
  clear k0 k1 k2 k3 k4 k5 k6 k7 k8 k9 k10 k11
  replace HKB := Lib.hid (HKB.out.below hb)
  obtain ⟨k0, k1, k2, k3, k4, k5, k6, k7, k8, k9, k10, k11⟩ := HKB.out.cs
  replace HB := Lib.hid (HB.out.trans (hb.mono HB.out.size))
  clear hb
  refine hK.out _ _ ⟨k0, k1, k2, k3, k4, k5, k6, k7, k8, k9, k10, k11⟩ (fun hHeld => ?_)
  clear hK K
  try simp only [Act.put, List.setIfInBounds_toArray, List.set_cons_zero, List.set_cons_succ]
  refine wpAnyH_ready (rs := [6]) (by kernel_rfl) (by simp) ?_
  refine ac (fun K hK => ?_) AllReadyH.nil
  go_simp
  go_at_call 12
  refine (HRR.out _ (by exact HB.out)).mono ?_
  rintro e u6 ⟨rfl, hb⟩
  replace hb := Kn.below_via (Below.refl u4.heap.size u4) hb (Nat.le_refl _) ⟨rfl, rfl, rfl, rfl⟩
  clear k0 k1 k2 k3 k4 k5 k6 k7 k8 k9 k10 k11
  replace HKB := Lib.hid (HKB.out.below hb)
  obtain ⟨k0, k1, k2, k3, k4, k5, k6, k7, k8, k9, k10, k11⟩ := HKB.out.cs
  replace HB := Lib.hid (HB.out.trans (hb.mono HB.out.size))
  clear hb
  refine hK.out _ _ ⟨k0, k1, k2, k3, k4, k5, k6, k7, k8, k9, k10, k11⟩ (fun hHeld => ?_)
  clear hK K
  try simp only [Act.put, List.setIfInBounds_toArray, List.set_cons_zero, List.set_cons_succ]
  refine tk 7 ?_
  refine tk 8 ?_
  refine tk 9 ?_
  refine tk 10 ?_
  refine tk 13 ?_
  refine wpAnyH_ready (rs := [11]) (by kernel_rfl) (by simp) ?_
  refine ac (fun K hK => ?_) AllReadyH.nil
  go_simp
  go_at_call 11
  refine (HTO.out _ (by exact HB.out)).mono ?_
  rintro e u11 ⟨v2, rfl, hv, hb⟩
  replace hb := Kn.below_via (Below.refl u6.heap.size u6) hb (Nat.le_refl _) ⟨rfl, rfl, rfl, rfl⟩
  have HV2 := Lib.hid hv
  clear hv
  clear k0 k1 k2 k3 k4 k5 k6 k7 k8 k9 k10 k11
  replace HKB := Lib.hid (HKB.out.below hb)
  obtain ⟨k0, k1, k2, k3, k4, k5, k6, k7, k8, k9, k10, k11⟩ := HKB.out.cs
  replace HB := Lib.hid (HB.out.trans (hb.mono HB.out.size))
  clear hb
  refine hK.out _ _ ⟨k0, k1, k2, k3, k4, k5, k6, k7, k8, k9, k10, k11⟩ (fun hHeld => ?_)
  clear hK K
  try simp only [Act.put, List.setIfInBounds_toArray, List.set_cons_zero, List.set_cons_succ]
  refine wpAnyH_ready (rs := [12]) (by kernel_rfl) (by simp) ?_
  refine ac (fun K hK => ?_) AllReadyH.nil
  go_simp
  go_at_call 14
  refine (HP.out _ v2 (by exact HB.out) (by exact HV2.out)).mono ?_
  rintro e u12 ⟨Aa, ca, rfl, ho, hb⟩
  obtain ⟨ga, hz, _⟩ := By.own_bytes ho
  have HOa : Hid (By.BytesAt u12 ga Aa P.length P) := Lib.hid hz
  clear ho hz
  replace hb := Kn.below_via (Below.refl u11.heap.size u11) hb (Nat.le_refl _) ⟨rfl, rfl, rfl, rfl⟩
  clear k0 k1 k2 k3 k4 k5 k6 k7 k8 k9 k10 k11
  replace HKB := Lib.hid (HKB.out.below hb)
  obtain ⟨k0, k1, k2, k3, k4, k5, k6, k7, k8, k9, k10, k11⟩ := HKB.out.cs
  replace HB := Lib.hid (HB.out.trans (hb.mono HB.out.size))
  clear hb
  refine hK.out _ _ ⟨k0, k1, k2, k3, k4, k5, k6, k7, k8, k9, k10, k11⟩ (fun hHeld => ?_)
  clear hK K
  try simp only [Act.put, List.setIfInBounds_toArray, List.set_cons_zero, List.set_cons_succ]
  refine wpAnyH_ready (rs := [14]) (by kernel_rfl) (by simp) ?_
  refine ac (fun K hK => ?_) AllReadyH.nil
  go_simp
  go_at_call 15
  refine (HRP.out _ (by exact HB.out)).mono ?_
  rintro e u14 ⟨Ab, cb, rfl, ho, hb⟩
  replace hb := Kn.below_via (Below.refl u12.heap.size u12) hb (Nat.le_refl _) ⟨rfl, rfl, rfl, rfl⟩
  replace HOa := Lib.hid (HOa.out.keep hb)
  obtain ⟨gb, hz, _⟩ := By.own_bytes ho
  have HOb : Hid (By.BytesAt u14 gb Ab P.length P) := Lib.hid hz
  clear ho hz
  clear k0 k1 k2 k3 k4 k5 k6 k7 k8 k9 k10 k11
  replace HKB := Lib.hid (HKB.out.below hb)
  obtain ⟨k0, k1, k2, k3, k4, k5, k6, k7, k8, k9, k10, k11⟩ := HKB.out.cs
  replace HB := Lib.hid (HB.out.trans (hb.mono HB.out.size))
  clear hb
  refine hK.out _ _ ⟨k0, k1, k2, k3, k4, k5, k6, k7, k8, k9, k10, k11⟩ (fun hHeld => ?_)
  clear hK K
  try simp only [Act.put, List.setIfInBounds_toArray, List.set_cons_zero, List.set_cons_succ]
  refine wpAnyH_ready (rs := [15]) (by kernel_rfl) (by simp) ?_
  refine ac (fun K hK => ?_) AllReadyH.nil
  go_simp
  go_at_call 13
  refine (By.same_any Aa Ab P.length P.length ca cb ga gb P P _ (by exact HOa.out) (by exact HOb.out)).mono ?_
  rw [decide_eq_true rfl]
  rintro e u15 ⟨rfl, rfl⟩
  refine hK.out _ _ ⟨k0, k1, k2, k3, k4, k5, k6, k7, k8, k9, k10, k11⟩ (fun hHeld => ?_)
  clear hK K
  try simp only [Act.put, List.setIfInBounds_toArray, List.set_cons_zero, List.set_cons_succ]
  refine tk 16 ?_
  refine tk 17 ?_
  refine wpAnyH_done (by kernel_rfl) ?_ _
  go_wp2
  go_ret
  exact ⟨ret_bool (by simp), HB.out⟩
end Go.Proofs.YtbookbgfipbaoaaGreatDoor

/- From what the rows list of the library's variables to what the walks ask; a world for the witnesses. -/
namespace Go.Proofs.YtbookbgfipbaoaaGreatDoor.Zo
open Go.RowKit

theorem starE : "*" ++ "errors.errorString" = "*errors.errorString" := by decide
theorem rowEP (u : TypeId) (h : Tryz.prog.typeName? 3 u = some "*errors.errorString") : u = 315 :=
  typeName_ptr_named (nm := "errors.errorString") (by rw [starE]; kernel_rfl) (by kernel_rfl) (by decide) u (by rw [starE]; exact h)
def laidL : List (String × DataW Unit) := Rows.frameRightsRow.laid
theorem var_lt {P : Program} {W : World} {n : String} {g : Nat} {cs : Array Value} (hg : P.globalNamed n = some g) (hv : W.var? P n = some cs) : g < W.heap.size := by
  rcases Nat.lt_or_ge g W.heap.size with h | h
  · exact h
  · unfold World.var? at hv
    simp only [hg, Option.bind_some] at hv
    rw [Array.getElem?_eq_none h] at hv
    simp at hv
theorem glob_of {W : World} (h : laidMetH Tryz.prog laidL W) (hS : W.ShapedOpen Tryz.prog) : Glob W := by
  rw [MakeChecks.laidMetH_plain _ _ _ (by kernel_rfl)] at h
  have hT : Lib.TabIs Tryz.prog W "internal/strconv.uint64pow10" .u64 Lib.pow10Tab :=
    Lib.tabIs_of_head (show Tryz.prog.globalNamed "internal/strconv.uint64pow10" = some 2 by kernel_rfl) (show (Tryz.prog.globals[2]?).map (·.type) = some 289 by kernel_rfl) Tryz.underlying289 Tryz.underlying61 (by kernel_rfl) (by kernel_rfl) (show laidMet Tryz.prog (("internal/strconv.uint64pow10", Lib.tabData .u64 Lib.pow10Tab) :: _) W from h.tail.tail)
  obtain ⟨a1, s1, hr, _⟩ := laid_sentinel h.tail.tail.tail.tail (show Tryz.prog.globalNamed "strconv.ErrRange" = some 8 by kernel_rfl) (show (Tryz.prog.globals[8]?).map (·.type) = some 230 by kernel_rfl) Tryz.underlying230 rowEP Tryz.underlying315 Tryz.underlying317 rfl rfl Tryz.underlying9 (by kernel_rfl) (by kernel_rfl)
  obtain ⟨a2, s2, hs, _⟩ := laid_sentinel h.tail.tail.tail.tail.tail (show Tryz.prog.globalNamed "strconv.ErrSyntax" = some 7 by kernel_rfl) (show (Tryz.prog.globals[7]?).map (·.type) = some 230 by kernel_rfl) Tryz.underlying230 rowEP Tryz.underlying315 Tryz.underlying317 rfl rfl Tryz.underlying9 (by kernel_rfl) (by kernel_rfl)
  refine ⟨?_, ?_, ⟨_, _, hs⟩, ⟨_, _, hr⟩, hT⟩
  · exact Nat.max_le.2 ⟨var_lt (show Tryz.prog.globalNamed "strconv.ErrSyntax" = some 7 by kernel_rfl) hs, var_lt (show Tryz.prog.globalNamed "strconv.ErrRange" = some 8 by kernel_rfl) hr⟩
  · exact cell_of_shapedOpen_int (zero := #[.int .i64 0]) (t := 3) hS (of_decide_eq_true (by kernel_rfl)) (by kernel_rfl) rfl (by kernel_rfl) (by kernel_rfl) Tryz.underlying3
/-- A world for the witnesses: what the program's own initialisers lay, and the library's table beside it. -/
noncomputable def laidWorld (os : Os) : World :=
  { World.doorLaid Tryz.prog 100 os with heap := (World.doorLaid Tryz.prog 100 os).heap.modify 3 fun
      | .cells _ t f => .cells (Go.Pinned.utf8FirstZ.map fun (n : Nat) => Value.int .u8 (n : Int)).toArray t f
      | o => o }
set_option maxRecDepth 100000 in
theorem laid_met (os : Os) (args : Array Value) : laidMet Tryz.prog laidL ((laidWorld os).forCall (fun _ _ => 0) ⟨#[], args, []⟩).memory :=
  laidMet_of_run' 8 (by kernel_rfl) (by kernel_rfl)
end Go.Proofs.YtbookbgfipbaoaaGreatDoor.Zo
