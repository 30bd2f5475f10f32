/- id.Union: all of both, each once, rising. -/
import Derived.Test.YtbbcifcdimfdgaaUb
import Derived.Test.YtbbcifcdimfdgaaSl
import Derived.Sort.OwnSorted
namespace Go.Proofs.Ytbbcifcdimfdgaa
open Go.RowKit Go.Sort

def RisingT (l : List ByteArray) : Prop := l.Pairwise fun a b => cmpId a b < 0
/-- r is what is in l, each once, rising. -/
def IsUnion (l r : List ByteArray) : Prop := RisingT r ∧ ∀ s, s ∈ r ↔ s ∈ l
theorem cmpId_not_both {a b : ByteArray} (h : cmpId a b < 0) : ¬ cmpId b a < 0 := by rw [cmpId_neg a b]; omega
theorem rising_ext : ∀ {xs ys : List ByteArray}, RisingT xs → RisingT ys → (∀ s, s ∈ xs ↔ s ∈ ys) → xs = ys
  | [], [], _, _, _ => rfl
  | [], y :: ys, _, _, h => absurd ((h y).mpr (by simp)) (by simp)
  | x :: xs, [], _, _, h => absurd ((h x).mp (by simp)) (by simp)
  | x :: xs, y :: ys, hx, hy, h => by
    have hx' := List.pairwise_cons.mp hx
    have hy' := List.pairwise_cons.mp hy
    have e : x = y := by
      rcases List.mem_cons.mp ((h x).mp (by simp)) with e | e
      · exact e
      · rcases List.mem_cons.mp ((h y).mpr (by simp)) with e' | e'
        · exact e'.symm
        · exact absurd (hx'.1 y e') (cmpId_not_both (hy'.1 x e))
    subst e
    have : xs = ys := rising_ext hx'.2 hy'.2 fun s => by
      constructor
      · intro hs
        rcases List.mem_cons.mp ((h s).mp (by simp [hs])) with e | e
        · have := hx'.1 s hs; rw [e, cmpId_self] at this; omega
        · exact e
      · intro hs
        rcases List.mem_cons.mp ((h s).mpr (by simp [hs])) with e | e
        · have := hy'.1 s hs; rw [e, cmpId_self] at this; omega
        · exact e
    rw [this]
theorem IsUnion.ext {l r r' : List ByteArray} (h : IsUnion l r) (h' : IsUnion l r') : r = r' := rising_ext h.1 h'.1 fun s => (h.2 s).trans (h'.2 s).symm

theorem ltOf_cmp (x y : ByteArray) : ltOf cmpId x y = decide (cmpId x y < 0) := rfl
theorem swoT : SWO (ltOf cmpId) where
  irrefl x := by rw [ltOf_cmp, cmpId_self]; simp
  trans x y z h1 h2 := by
    rw [ltOf_cmp, decide_eq_true_iff] at *
    exact cmpId_lt x y z h1 (by omega)
  ntrans x y z h1 h2 := by
    rw [ltOf_cmp, decide_eq_false_iff_not] at *
    have a := cmpId_neg x y
    have b := cmpId_neg y z
    have c := cmpId_neg x z
    have := cmpId_le z y x (by omega) (by omega)
    omega
theorem totT (x y : ByteArray) (h1 : ltOf cmpId x y = false) (h2 : ltOf cmpId y x = false) : x = y := by
  rw [ltOf_cmp, decide_eq_false_iff_not] at *
  have a := cmpId_neg x y
  exact (cmpId_zero x y).mp (by omega)

def sortT (l : List ByteArray) : List ByteArray := l.mergeSort fun x y => !(ltOf cmpId) y x
def unionF (l : List ByteArray) : List ByteArray := Lib.compactUpTo (sortT l).toArray l.length
theorem sortT_len (l : List ByteArray) : (sortT l).length = l.length := by simp [sortT]
theorem mem_sortT (l : List ByteArray) (s : ByteArray) : s ∈ sortT l ↔ s ∈ l := by simp [sortT]
theorem sortT_le (l : List ByteArray) : (sortT l).Pairwise fun x y => cmpId x y ≤ 0 := by
  have h := List.pairwise_mergeSort (le := fun x y => !(ltOf cmpId) y x) (fun a b c h1 h2 => by
    simp only [ltOf_cmp, Bool.not_eq_true', decide_eq_false_iff_not] at *
    have a1 := cmpId_neg a b
    have b1 := cmpId_neg b c
    have c1 := cmpId_neg a c
    have := cmpId_le a b c (by omega) (by omega)
    omega) (fun a b => by
    simp only [ltOf_cmp, Bool.or_eq_true, Bool.not_eq_true', decide_eq_false_iff_not]
    have := cmpId_neg a b
    omega) l
  refine List.Pairwise.imp ?_ h
  intro x y hxy
  simp only [ltOf_cmp, Bool.not_eq_true', decide_eq_false_iff_not] at hxy
  have := cmpId_neg x y
  omega
theorem getT (l : List ByteArray) {j : Nat} (h : j < l.length) : l.toArray[j]! = l[j] := by simp [h]
theorem compact_is {l : List ByteArray} (hs : l.Pairwise fun x y => cmpId x y ≤ 0) : ∀ m, m ≤ l.length → RisingT (Lib.compactUpTo l.toArray m) ∧ ∀ s, s ∈ Lib.compactUpTo l.toArray m ↔ ∃ j, ∃ h : j < l.length, j < m ∧ l[j] = s := by
  intro m
  induction m with
  | zero => intro _; exact ⟨by simp [Lib.compactUpTo, RisingT], fun s => by simp [Lib.compactUpTo]⟩
  | succ m ih =>
    intro hm
    obtain ⟨h1, h2⟩ := ih (by omega)
    rw [Lib.compactUpTo_succ]
    have hlt : m < l.length := by omega
    by_cases hk : Lib.keeps l.toArray m = true
    · rw [if_pos hk, getT l hlt]
      refine ⟨?_, fun s => ?_⟩
      · refine List.pairwise_append.mpr ⟨h1, List.pairwise_singleton _ _, fun a ha b hb => ?_⟩
        rw [List.mem_singleton] at hb
        subst hb
        obtain ⟨j, hj, hjm, rfl⟩ := (h2 a).mp ha
        simp only [Lib.keeps, decide_eq_true_iff] at hk
        rcases hk with e | hk
        · omega
        · rw [getT l hlt, getT l (show m - 1 < l.length by omega)] at hk
          have e1 : cmpId l[m - 1] l[m] ≤ 0 := List.pairwise_iff_getElem.mp hs (m - 1) m (by omega) hlt (by omega)
          have e2 : cmpId l[j] l[m - 1] ≤ 0 := by
            by_cases e : j = m - 1
            · subst e; rw [cmpId_self]; omega
            · exact List.pairwise_iff_getElem.mp hs j (m - 1) hj (by omega) (by omega)
          have e3 : cmpId l[m - 1] l[m] ≠ 0 := fun e => hk ((cmpId_zero _ _).mp e).symm
          exact cmpId_lt' _ _ _ e2 (by omega)
      · rw [List.mem_append, h2, List.mem_singleton]
        constructor
        · rintro (⟨j, hj, hjm, e⟩ | e)
          · exact ⟨j, hj, by omega, e⟩
          · exact ⟨m, hlt, by omega, e.symm⟩
        · rintro ⟨j, hj, hjm, e⟩
          by_cases ejm : j = m
          · subst ejm; exact .inr e.symm
          · exact .inl ⟨j, hj, by omega, e⟩
    · rw [if_neg hk, List.append_nil]
      refine ⟨h1, fun s => ?_⟩
      rw [h2]
      simp only [Lib.keeps, decide_eq_true_iff] at hk
      have hm0 : m ≠ 0 := fun e => hk (.inl e)
      have he : l.toArray[m]! = l.toArray[m - 1]! := Classical.byContradiction fun e => hk (.inr e)
      rw [getT l hlt, getT l (show m - 1 < l.length by omega)] at he
      constructor
      · rintro ⟨j, hj, hjm, e⟩
        exact ⟨j, hj, by omega, e⟩
      · rintro ⟨j, hj, hjm, e⟩
        by_cases ejm : j = m
        · subst ejm; exact ⟨j - 1, by omega, by omega, he.symm.trans e⟩
        · exact ⟨j, hj, by omega, e⟩
theorem unionF_is (l : List ByteArray) : IsUnion l (unionF l) := by
  obtain ⟨h1, h2⟩ := compact_is (sortT_le l) l.length (by rw [sortT_len]; exact Nat.le_refl _)
  refine ⟨h1, fun s => ?_⟩
  show s ∈ Lib.compactUpTo (sortT l).toArray l.length ↔ _
  rw [h2, ← mem_sortT, List.mem_iff_getElem]
  constructor
  · rintro ⟨j, hj, _, e⟩; exact ⟨j, hj, e⟩
  · rintro ⟨j, hj, e⟩; exact ⟨j, hj, by rw [sortT_len] at hj; exact hj, e⟩
theorem union_is {l r : List ByteArray} (h : IsUnion l r) : r = unionF l := h.ext (unionF_is l)
theorem unionF_len (l : List ByteArray) : (unionF l).length ≤ l.length := by
  unfold unionF Lib.compactUpTo
  rw [List.length_map]
  exact Nat.le_trans (List.length_filter_le _ _) (by simp)
theorem unionF_self {l : List ByteArray} (h : RisingT l) : unionF l = l := (union_is ⟨h, fun _ => Iff.rfl⟩).symm

theorem rowT_map (zs : List ByteArray) : rowCells cellsT zs = zs.map Value.string := by
  induction zs with
  | nil => rfl
  | cons x r ih => simp only [rowCells, List.flatMap_cons, List.map_cons] at ih ⊢; rw [ih]; rfl
theorem heap_putT {w : World} {g n : Nat} {os : Array Obj} {cur : Array Value} {e : TypeId} {fr : Nat × Nat} (d : Array ByteArray) (hb : w.heap[g]? = some (.cells cur e fr)) :
    (grow (putRow Value.string (Sort.ahead w n) g 0 d) os).heap[g]? = some (.cells (putCells Value.string 0 d cur) e fr) := by
  have hg : g < w.heap.size := (Array.getElem?_eq_some_iff.1 hb).1
  rw [heap_grow_old _ _ (by simpa using hg)]
  simp [putRow, mapBlock, Sort.ahead, Array.getElem?_modify, hb, onCells]
theorem below_putT {w : World} {B g n : Nat} {os : Array Obj} (d : Array ByteArray) (hg : B ≤ g) (hB : B ≤ w.heap.size) : Below B w (grow (putRow Value.string (Sort.ahead w n) g 0 d) os) := by
  refine ⟨rfl, rfl, rfl, by simp, fun k hk => ?_⟩
  rw [heap_grow_old _ _ (by simp; omega)]
  have : g ≠ k := by omega
  simp [putRow, mapBlock, Sort.ahead, Array.getElem?_modify, this]
theorem take_putT (cur : Array Value) (us vs : List ByteArray) (h : (us ++ vs).length ≤ cur.size) : (putCells Value.string 0 (us ++ vs).toArray cur).toList.take us.length = us.map Value.string := by
  apply List.ext_getElem?
  intro j
  by_cases hj : j < us.length
  · have hj' : j < (us ++ vs).length := by rw [List.length_append]; omega
    rw [List.getElem?_take_of_lt hj, Array.getElem?_toList]
    simp only [putCells, Array.getElem?_mapIdx, Nat.zero_le, true_and, Nat.zero_add, Nat.sub_zero]
    rw [Array.getElem?_eq_getElem (show j < cur.size by omega), Option.map_some, if_pos (by simpa using hj'), List.getElem?_map, List.getElem?_eq_getElem hj]
    rw [getT _ hj', List.getElem_append_left hj]
    rfl
  · rw [List.getElem?_take_eq_none (by omega), List.getElem?_eq_none (by simp; omega)]
/-- A row of the call's own whose cells were put anew. -/
theorem own_putT {w : World} {B g cap L n : Nat} {e : TypeId} {os : Array Obj} {xs : List Value} {us vs : List ByteArray} (h : w.ownsRow B e 1 (.slice (some ⟨g, 0, none⟩) L cap) L xs) (hl : (us ++ vs).length = L) :
    (grow (putRow Value.string (Sort.ahead w n) g 0 (us ++ vs).toArray) os).ownsRow B e 1 (.slice (some ⟨g, 0, none⟩) us.length cap) us.length (rowCells cellsT us) := by
  have hul : us.length ≤ L := by rw [← hl, List.length_append]; omega
  rcases h.2 with ⟨hv, _⟩ | ⟨g', cap', cur, hv, hB, hh, hnc, hm, hs, ht⟩
  · cases hv
  · injection hv with e1 _ e3
    injection e1 with e1
    injection e1 with e1
    subst e1 e3
    refine ⟨by rw [rowT_map]; simp, .inr ⟨g, cap, _, rfl, hB, heap_putT _ hh, by omega, hm, by simp [putCells, hs], ?_⟩⟩
    rw [Nat.mul_one, rowT_map]
    exact take_putT cur us vs (by omega)
theorem own_holdsT {w : World} {B g cap L : Nat} {e : TypeId} {zs : List ByteArray} (h : w.ownsRow B e 1 (.slice (some ⟨g, 0, none⟩) L cap) L (rowCells cellsT zs)) : Holds Value.string w g 0 zs.toArray := by
  rcases h.2 with ⟨hv, _⟩ | ⟨g', cap', cur, hv, hB, hh, hnc, hm, hs, ht⟩
  · cases hv
  · injection hv with e1 _ e3
    injection e1 with e1
    injection e1 with e1
    subst e1 e3
    have hl : zs.length = L := by have := h.1; rw [rowCells_length rowT.len] at this; omega
    intro j hj
    have hj' : j < zs.length := by simpa using hj
    refine ⟨?_, by simp [World.frozen?, hh]⟩
    have h1 : (cur.toList.take (L * 1))[j]? = (zs.map Value.string)[j]? := by rw [ht, rowT_map]
    rw [List.getElem?_take_of_lt (by omega)] at h1
    simp only [World.cell?, hh, Nat.zero_add]
    simp only [Option.isSome_none, Bool.false_eq_true, if_false]
    rw [← Array.getElem?_toList, h1]
    simp [hj']

theorem eqlT : EqlAt Try.prog 35 Value.string (fun x y => decide (x = y)) := ⟨fun x y w => by
  rw [(EqlAt.string Try.prog 35).1 x y w]
  by_cases h : x = y
  · simp [h]
  · simp only [beq_no h, h, decide_false], (EqlAt.string Try.prog 35).2⟩
theorem neqT : NeqAt Try.prog 35 Value.string (fun x y => decide (x = y)) := ⟨fun x y w => by
  rw [(NeqAt.string Try.prog 35).1 x y w]
  by_cases h : x = y
  · simp [h]
  · simp only [beq_no h, h, decide_false], (NeqAt.string Try.prog 35).2⟩

end Go.Proofs.Ytbbcifcdimfdgaa
