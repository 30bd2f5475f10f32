/- Stores: what a key has, what there is when an item came, and without a key's. -/
import Derived.Test.YtpaiigminmakgaaPb
namespace Go.Proofs.Ytpaiigminmakgaa
open Go.RowKit

def zeroIt : Itm := ⟨0, ⟨⟨#[]⟩, 0, 0⟩, false, 0, 0, ⟨#[]⟩, false⟩
def getF (zs : List Itm) (k : Int) : Option Itm := zs.find? fun z => z.key == k
def lowF (zs : List Itm) (k : Int) : List Itm := zs.filter fun z => decide (z.key < k)
def highF (zs : List Itm) (k : Int) : List Itm := zs.filter fun z => decide (k < z.key)
def insF (zs : List Itm) (x : Itm) : List Itm := lowF zs x.key ++ x :: highF zs x.key
def dropF (zs : List Itm) (k : Int) : List Itm := lowF zs k ++ highF zs k
theorem mem_take_of {zs : List Itm} {p : Nat} {z : Itm} (h : z ∈ zs.take p) : ∃ j, zs[j]? = some z ∧ j < p := by
  obtain ⟨j, hj⟩ := List.getElem?_of_mem h
  rw [List.getElem?_take] at hj
  split at hj
  · exact ⟨j, hj, by assumption⟩
  · cases hj
theorem mem_drop_of {zs : List Itm} {p : Nat} {z : Itm} (h : z ∈ zs.drop p) : ∃ j, zs[j]? = some z ∧ p ≤ j := by
  obtain ⟨j, hj⟩ := List.getElem?_of_mem h
  rw [List.getElem?_drop] at hj
  exact ⟨p + j, hj, by omega⟩
theorem parts_low {zs : List Itm} {k : Int} {p : Nat} (h : PartsK zs k p p) : zs.take p = lowF zs k := by
  unfold lowF
  conv => rhs; rw [← List.take_append_drop p zs, List.filter_append]
  have h1 : (zs.take p).filter (fun z => decide (z.key < k)) = zs.take p := List.filter_eq_self.mpr fun z hz => by
    obtain ⟨j, hj, hlt⟩ := mem_take_of hz
    simpa using h.1 j z hj hlt
  have h2 : (zs.drop p).filter (fun z => decide (z.key < k)) = [] := List.filter_eq_nil_iff.mpr fun z hz => by
    obtain ⟨j, hj, hle⟩ := mem_drop_of hz
    have := h.2 j z hj hle
    simp
    omega
  rw [h1, h2, List.append_nil]
theorem isAt_true {zs : List Itm} {k : Int} {p : Nat} (h : isAt zs k p = true) : ∃ z, zs[p]? = some z ∧ z.key = k := by
  unfold isAt at h
  rcases e : zs[p]? with _ | z
  · rw [e] at h; cases h
  · rw [e] at h
    exact ⟨z, rfl, by simpa using h⟩
theorem isAt_false {zs : List Itm} {k : Int} {p : Nat} {z : Itm} (h : isAt zs k p = false) (hz : zs[p]? = some z) : z.key ≠ k := by
  unfold isAt at h
  rw [hz] at h
  simpa using h
theorem parts_no {zs : List Itm} {k : Int} {p : Nat} (hs : Keys zs) (h : PartsK zs k p p) (hf : isAt zs k p = false) : ∀ j z, zs[j]? = some z → p ≤ j → k < z.key := by
  intro j z hj hle
  have h1 := h.2 j z hj hle
  rcases Nat.lt_or_ge p j with hlt | hge
  · have hp : p < zs.length := by have := (List.getElem?_eq_some_iff.mp hj).1; omega
    have hy : zs[p]? = some zs[p] := List.getElem?_eq_getElem hp
    have := keys_lt hs hy hj hlt
    have := h.2 p _ hy (Nat.le_refl _)
    omega
  · obtain rfl : p = j := by omega
    have := isAt_false hf hj
    omega
theorem parts_high {zs : List Itm} {k : Int} {p : Nat} (hs : Keys zs) (h : PartsK zs k p p) (hf : isAt zs k p = false) : zs.drop p = highF zs k := by
  unfold highF
  conv => rhs; rw [← List.take_append_drop p zs, List.filter_append]
  have h1 : (zs.take p).filter (fun z => decide (k < z.key)) = [] := List.filter_eq_nil_iff.mpr fun z hz => by
    obtain ⟨j, hj, hlt⟩ := mem_take_of hz
    have := h.1 j z hj hlt
    simp
    omega
  have h2 : (zs.drop p).filter (fun z => decide (k < z.key)) = zs.drop p := List.filter_eq_self.mpr fun z hz => by
    obtain ⟨j, hj, hle⟩ := mem_drop_of hz
    simpa using parts_no hs h hf j z hj hle
  rw [h1, h2, List.nil_append]
theorem parts_high1 {zs : List Itm} {k : Int} {p : Nat} (hs : Keys zs) (h : PartsK zs k p p) (hf : isAt zs k p = true) : zs.drop (p + 1) = highF zs k := by
  obtain ⟨y, hy, hk⟩ := isAt_true hf
  unfold highF
  conv => rhs; rw [← List.take_append_drop (p + 1) zs, List.filter_append]
  have h1 : (zs.take (p + 1)).filter (fun z => decide (k < z.key)) = [] := List.filter_eq_nil_iff.mpr fun z hz => by
    obtain ⟨j, hj, hlt⟩ := mem_take_of hz
    rcases Nat.lt_or_ge j p with hl | hg
    · have := h.1 j z hj hl
      simp
      omega
    · obtain rfl : j = p := by omega
      rw [hy] at hj
      injection hj with hj
      subst hj
      simp
      omega
  have h2 : (zs.drop (p + 1)).filter (fun z => decide (k < z.key)) = zs.drop (p + 1) := List.filter_eq_self.mpr fun z hz => by
    obtain ⟨j, hj, hle⟩ := mem_drop_of hz
    have := keys_lt hs hy hj (by omega)
    simp
    omega
  rw [h1, h2, List.nil_append]
theorem get_yes {zs : List Itm} {k : Int} {p : Nat} {z : Itm} (h : PartsK zs k p p) (hz : zs[p]? = some z) (hk : z.key = k) : getF zs k = some z := by
  unfold getF
  obtain ⟨hp, he⟩ := List.getElem?_eq_some_iff.mp hz
  conv => lhs; rw [← List.take_append_drop p zs, List.find?_append, List.drop_eq_getElem_cons hp, he]
  have h1 : (zs.take p).find? (fun z => z.key == k) = none := List.find?_eq_none.mpr fun y hy => by
    obtain ⟨j, hj, hlt⟩ := mem_take_of hy
    have := h.1 j y hj hlt
    simp
    omega
  rw [h1]
  simp [hk]
theorem get_no {zs : List Itm} {k : Int} {p : Nat} (hs : Keys zs) (h : PartsK zs k p p) (hf : isAt zs k p = false) : getF zs k = none := by
  unfold getF
  refine List.find?_eq_none.mpr fun y hy => ?_
  obtain ⟨j, hj⟩ := List.getElem?_of_mem hy
  rcases Nat.lt_or_ge j p with hl | hg
  · have := h.1 j y hj hl
    simp
    omega
  · have := parts_no hs h hf j y hj hg
    simp
    omega
theorem low_keys {zs : List Itm} {k : Int} : ∀ z ∈ lowF zs k, z.key < k := fun z hz => by simpa using (List.mem_filter.mp hz).2
theorem high_keys {zs : List Itm} {k : Int} : ∀ z ∈ highF zs k, k < z.key := fun z hz => by simpa using (List.mem_filter.mp hz).2
theorem ins_keys {zs : List Itm} {x : Itm} (hs : Keys zs) : Keys (insF zs x) := by
  unfold insF Keys
  rw [List.pairwise_append, List.pairwise_cons]
  refine ⟨hs.sublist (List.filter_sublist ..), ⟨fun y hy => high_keys y hy, hs.sublist (List.filter_sublist ..)⟩, fun y hy z hz => ?_⟩
  have h1 := low_keys y hy
  rcases List.mem_cons.mp hz with rfl | hz
  · exact h1
  · have := high_keys z hz
    omega
theorem drop_keys {zs : List Itm} {k : Int} (hs : Keys zs) : Keys (dropF zs k) := by
  unfold dropF Keys
  rw [List.pairwise_append]
  refine ⟨hs.sublist (List.filter_sublist ..), hs.sublist (List.filter_sublist ..), fun y hy z hz => ?_⟩
  have h1 := low_keys y hy
  have := high_keys z hz
  omega
theorem low_len (zs : List Itm) (k : Int) : (lowF zs k).length ≤ zs.length := List.length_filter_le _ _
theorem high_len (zs : List Itm) (k : Int) : (highF zs k).length ≤ zs.length := List.length_filter_le _ _
end Go.Proofs.Ytpaiigminmakgaa
