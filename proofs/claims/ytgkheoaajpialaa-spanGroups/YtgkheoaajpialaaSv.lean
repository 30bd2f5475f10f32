/- A region that draws its order, walked by an invariant of what has come up: each operation once, whatever the order. -/
import Derived.Test.YtgkheoaajpialaaSr
namespace Go.Proofs.Ytgkheoaajpialaa
open Go.RowKit

/-- What each operation waits for. -/
def depsOf (ops : Array Oper) : List (List Nat) := ops.toList.map fun o => (o.after.toList.filter fun e => Region.binds .any e).map (·.on)

theorem ready_spec {ops : Array Oper} {D : List (List Nat)} (hd : depsOf ops = D) {listed : Array Bool} {i : Nat} (hi : i ∈ Region.ready .any ops listed) :
    i < D.length ∧ listed.getD i true = false ∧ ∀ j ∈ D.getD i [], listed.getD j false = true := by
  subst hd
  unfold Region.ready at hi
  rw [List.mem_filter, List.mem_range] at hi
  obtain ⟨h1, h2⟩ := hi
  simp only [Bool.and_eq_true, Bool.not_eq_true'] at h2
  refine ⟨by unfold depsOf; simpa using h1, h2.1, fun j hj => ?_⟩
  have h3 := h2.2
  rw [Array.getElem?_eq_getElem h1] at h3
  simp only [Option.map_some, Option.getD_some, Array.all_eq_true'] at h3
  unfold depsOf at hj
  rw [List.getD_eq_getElem?_getD, List.getElem?_map, Array.getElem?_toList, Array.getElem?_eq_getElem h1] at hj
  simp only [Option.map_some, Option.getD_some, List.mem_map, List.mem_filter, Array.mem_toList_iff] at hj
  obtain ⟨e, ⟨he, hb⟩, rfl⟩ := hj
  have := h3 e he
  simpa [hb] using this

/-- Each waits for earlier ones alone. -/
def backB (D : List (List Nat)) : Bool := (List.range D.length).all fun i => (D.getD i []).all fun j => decide (j < i)

theorem all_listed {ops : Array Oper} {D : List (List Nat)} (hd : depsOf ops = D) (hb : backB D = true) {listed : Array Bool} (hr : Region.ready .any ops listed = []) : ∀ i, i < ops.size → listed.getD i true = true := by
  intro i
  induction i using Nat.strongRecOn with
  | ind i ih =>
    intro hi
    rcases hl : listed.getD i true with _ | _
    · exfalso
      have hmem : i ∈ Region.ready .any ops listed := by
        unfold Region.ready
        rw [List.mem_filter, List.mem_range]
        refine ⟨hi, ?_⟩
        rw [hl, Array.getElem?_eq_getElem hi]
        simp only [Bool.not_false, Bool.true_and, Option.map_some, Option.getD_some, Array.all_eq_true']
        intro e he
        rcases hbe : Region.binds .any e with _ | _
        · rfl
        · simp only [Bool.not_true, Bool.false_or]
          have hjD : e.on ∈ D.getD i [] := by
            subst hd
            unfold depsOf
            rw [List.getD_eq_getElem?_getD, List.getElem?_map, Array.getElem?_toList, Array.getElem?_eq_getElem hi]
            simp only [Option.map_some, Option.getD_some, List.mem_map, List.mem_filter, Array.mem_toList_iff]
            exact ⟨e, ⟨he, hbe⟩, rfl⟩
          have hlt : e.on < i := by
            unfold backB at hb
            rw [List.all_eq_true] at hb
            have h1 := hb i (by rw [List.mem_range]; subst hd; unfold depsOf; simpa using hi)
            rw [List.all_eq_true] at h1
            simpa using h1 e.on hjD
          have h2 := ih e.on hlt (by omega)
          rw [Array.getD_eq_getD_getElem?] at h2 ⊢
          rcases hg : listed[e.on]? with _ | b
          · exfalso
            rw [Array.getElem?_eq_none_iff] at hg
            rw [Array.getD_eq_getD_getElem?, Array.getElem?_eq_none (by omega)] at hl
            simp at hl
          · rw [hg] at h2
            simpa using h2
      rw [hr] at hmem
      simp at hmem
    · rfl

def unl (n : Nat) (listed : Array Bool) : Nat := (List.range n).countP fun i => !listed.getD i true

theorem unl_set {n i : Nat} {listed : Array Bool} (hi : i < n) (hl : listed.getD i true = false) : unl n (listed.setIfInBounds i true) + 1 = unl n listed := by
  have hsz : i < listed.size := by
    rcases Nat.lt_or_ge i listed.size with h | h
    · exact h
    · rw [Array.getD_eq_getD_getElem?, Array.getElem?_eq_none h] at hl; simp at hl
  have hget : ∀ j, (listed.setIfInBounds i true).getD j true = if j = i then true else listed.getD j true := by
    intro j
    rw [Array.getD_eq_getD_getElem?, Array.getElem?_setIfInBounds, Array.getD_eq_getD_getElem?]
    by_cases h : i = j
    · subst h; simp [hsz]
    · rw [if_neg h, if_neg (fun e => h e.symm)]
  unfold unl
  induction n with
  | zero => omega
  | succ n ih =>
    rw [List.range_succ, List.countP_append, List.countP_append]
    by_cases h : i < n
    · have := ih h
      have hne : n ≠ i := by omega
      simp only [List.countP_singleton, hget n, if_neg hne]
      omega
    · have hin : i = n := by omega
      subst hin
      have hsame : (List.range i).countP (fun j => !(listed.setIfInBounds i true).getD j true) = (List.range i).countP (fun j => !listed.getD j true) := by
        refine List.countP_congr fun j hj => ?_
        rw [List.mem_range] at hj
        rw [hget j, if_neg (by omega)]
      rw [hsame, List.countP_singleton, List.countP_singleton, hget i, hl, if_pos rfl]
      rfl

theorem region_inv {P : Program} {ops : Array Oper} {Q : Exit → Act → World → Prop} {id : Nat} {a : Act} {w : World} {D : List (List Nat)} (hm : P.follows .mixedOrders = true) (hd : depsOf ops = D) (hback : backB D = true)
    (Inv : Act → Array Bool → Act → World → Prop) (h0 : Inv a (Array.replicate ops.size false) a w.drew)
    (hstep : ∀ listed a' w' i, Inv a listed a' w' → (i < D.length ∧ listed.getD i true = false ∧ ∀ j ∈ D.getD i [], listed.getD j false = true) → wpOp P ops Q i (fun a'' w'' => Inv a (listed.setIfInBounds i true) a'' w'') a' w')
    (hend : ∀ listed a' w', Inv a listed a' w' → (∀ i, i < ops.size → listed.getD i true = true) → Q .normal a' w') : (Code.region id ops true).wp P Q a w := by
  have key : ∀ (fuel : Nat) (listed : Array Bool) (a' : Act) (w' : World), unl ops.size listed ≤ fuel → Inv a listed a' w' → wpAny P .any ops Q fuel listed a' w' := by
    intro fuel
    induction fuel with
    | zero =>
      intro listed a' w' hu hI
      have hr : Region.ready .any ops listed = [] := by
        rw [List.eq_nil_iff_forall_not_mem]
        intro i hi
        obtain ⟨h1, h2, _⟩ := ready_spec hd hi
        have h3 : i < ops.size := by subst hd; unfold depsOf at h1; simpa using h1
        have := unl_set (n := ops.size) h3 h2
        omega
      exact ⟨hr, hend listed a' w' hI (all_listed hd hback hr)⟩
    | succ fuel ih =>
      intro listed a' w' hu hI
      refine ⟨fun hr => hend listed a' w' hI (all_listed hd hback hr), fun i hi => ?_⟩
      have hs := ready_spec hd hi
      have h3 : i < ops.size := by have := hs.1; subst hd; unfold depsOf at this; simpa using this
      exact wpOp_mono (fun a'' w'' h => ih _ a'' w'' (by have := unl_set (n := ops.size) h3 hs.2.1; omega) h) (hstep listed a' w' i hI hs)
  refine wp_region_any hm (key _ _ a _ ?_ h0)
  unfold unl
  exact Nat.le_trans List.countP_le_length (by simp)
end Go.Proofs.Ytgkheoaajpialaa
