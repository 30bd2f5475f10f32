/- Stores: what is under a key when an item came, and when one was dropped. -/
import Derived.Test.YtpaiigminmakgaaPj
namespace Go.Proofs.Ytpaiigminmakgaa
open Go.RowKit

theorem getF_some {zs : List Itm} {k : Int} {z : Itm} (hs : Keys zs) (hz : z ∈ zs) (hk : z.key = k) : getF zs k = some z := by
  induction zs with
  | nil => simp at hz
  | cons y r ih =>
    obtain ⟨h1, h2⟩ := List.pairwise_cons.mp hs
    unfold getF
    rcases List.mem_cons.mp hz with rfl | hz
    · rw [List.find?_cons_of_pos (by simpa using hk)]
    · have := h1 z hz
      rw [List.find?_cons_of_neg (by simp; omega)]
      exact ih h2 hz
theorem getF_mem {zs : List Itm} {k : Int} {z : Itm} (h : getF zs k = some z) : z ∈ zs ∧ z.key = k := by
  unfold getF at h
  exact ⟨List.mem_of_find?_eq_some h, by simpa using List.find?_some h⟩
theorem getF_none {zs : List Itm} {k : Int} (h : ∀ z ∈ zs, z.key ≠ k) : getF zs k = none := by
  unfold getF
  exact List.find?_eq_none.mpr fun z hz => by simpa using h z hz
/-- Two rising rows with the same members of a key have the same under it. -/
theorem getF_same {zs ys : List Itm} {k : Int} (h1 : Keys zs) (h : ∀ z, z.key = k → (z ∈ zs ↔ z ∈ ys)) (h2 : Keys ys) : getF zs k = getF ys k := by
  rcases e : getF ys k with _ | z
  · refine getF_none fun z hz hk => ?_
    rw [getF_some h2 ((h z hk).mp hz) hk] at e
    cases e
  · obtain ⟨hz, hk⟩ := getF_mem e
    exact getF_some h1 ((h z hk).mpr hz) hk
theorem ins_other {zs : List Itm} {x z : Itm} (h : z.key ≠ x.key) : z ∈ insF zs x ↔ z ∈ zs := by
  unfold insF lowF highF
  simp only [List.mem_append, List.mem_cons, List.mem_filter, decide_eq_true_eq]
  constructor
  · rintro (h1 | h1 | h1)
    · exact h1.1
    · exact absurd (by rw [h1]) h
    · exact h1.1
  · intro h1
    rcases Int.lt_or_lt_of_ne h with h2 | h2
    · exact .inl ⟨h1, h2⟩
    · exact .inr (.inr ⟨h1, h2⟩)
theorem put_keys {zs : List Itm} {x : Itm} (hs : Keys zs) : Keys (putF zs x).1 := by
  unfold putF
  split
  · exact ins_keys hs
  · split
    · exact ins_keys hs
    · exact hs
theorem put_other {zs : List Itm} {x : Itm} {k : Int} (hs : Keys zs) (hk : k ≠ x.key) : getF (putF zs x).1 k = getF zs k := by
  refine getF_same (put_keys hs) (fun z hz => ?_) hs
  unfold putF
  split
  · exact ins_other (by omega)
  · split
    · exact ins_other (by omega)
    · exact Iff.rfl
theorem put_own {zs : List Itm} {x : Itm} (hs : Keys zs) : (getF (putF zs x).1 x.key).isSome = true := by
  have hin : (getF (insF zs x) x.key).isSome = true := by
    rw [getF_some (ins_keys hs) (z := x) (by unfold insF; simp) rfl]
    rfl
  unfold putF
  rcases e : getF zs x.key with _ | y
  · exact hin
  · simp only
    split
    · exact hin
    · rw [e]; rfl
theorem drop_other {zs : List Itm} {k k' : Int} (hs : Keys zs) (hk : k ≠ k') : getF (dropF zs k') k = getF zs k := by
  refine getF_same (drop_keys hs) (fun z hz => ?_) hs
  unfold dropF lowF highF
  simp only [List.mem_append, List.mem_filter, decide_eq_true_eq]
  constructor
  · rintro (h1 | h1)
    · exact h1.1
    · exact h1.1
  · intro h1
    rcases Int.lt_or_lt_of_ne (show z.key ≠ k' by omega) with h2 | h2
    · exact .inl ⟨h1, h2⟩
    · exact .inr ⟨h1, h2⟩
theorem drop_own (zs : List Itm) (k : Int) : getF (dropF zs k) k = none := by
  refine getF_none fun z hz => ?_
  unfold dropF at hz
  rcases List.mem_append.mp hz with h | h
  · have := low_keys z h; omega
  · have := high_keys z h; omega
theorem drop_le (zs : List Itm) (k : Int) : (dropF zs k).length ≤ zs.length := by
  unfold dropF lowF highF
  rw [List.length_append]
  induction zs with
  | nil => simp
  | cons y r ih =>
    simp only [List.filter_cons, List.length_cons]
    by_cases h1 : y.key < k
    · simp [h1, show ¬ k < y.key by omega]; omega
    · by_cases h2 : k < y.key
      · simp [h1, h2]; omega
      · simp [h1, h2]; omega
theorem put_ge {zs : List Itm} {x : Itm} (hs : Keys zs) : zs.length ≤ (putF zs x).1.length := by
  have hin : zs.length ≤ (insF zs x).length := by
    have h1 : (rdropF zs x.key).length = (lowF zs x.key).length + (highF zs x.key).length := by rw [rdrop_low_high hs, List.length_append]
    have h2 : zs.length ≤ (rdropF zs x.key).length + 1 := by
      clear h1
      induction zs with
      | nil => simp
      | cons y r ih =>
        obtain ⟨g1, g2⟩ := List.pairwise_cons.mp hs
        have ih := ih g2
        unfold rdropF at ih ⊢
        by_cases hk : y.key = x.key
        · have e : r.filter (fun z => z.key != x.key) = r := List.filter_eq_self.mpr fun z hz => by have := g1 z hz; simp; omega
          simp [hk, e]
        · simp [hk]; omega
    unfold insF
    simp only [List.length_append, List.length_cons]
    omega
  unfold putF
  split
  · exact hin
  · split
    · exact hin
    · exact Nat.le_refl _
theorem fixS_good (zs : List Itm) : GoodS (fixS zs) 12 := by
  have key : ∀ l : List Itm, ∀ acc m, GoodS acc m → GoodS (l.foldl stepS acc) (m + l.length) := fun l => by
    induction l with
    | nil => intro acc m h; simpa using h
    | cons z r ih =>
      intro acc m h
      have := ih _ _ (step_good (z := z) h)
      rw [List.foldl_cons, List.length_cons, show m + (r.length + 1) = m + 1 + r.length by omega]
      exact this
  have h := key (zs.take 12) [] 0 ⟨List.Pairwise.nil, fun _ h => by simp at h, by simp⟩
  refine ⟨h.keys, h.right, Nat.le_trans h.len ?_⟩
  have := List.length_take_le 12 zs
  omega
end Go.Proofs.Ytpaiigminmakgaa
