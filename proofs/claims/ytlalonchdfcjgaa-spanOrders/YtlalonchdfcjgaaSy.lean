/- SpanOrders: the mathematics and the words of its walk. -/
import Derived.Test.YtlalonchdfcjgaaSp
import Derived.BigRegion
namespace Go.Proofs.Ytlalonchdfcjgaa
open Go.RowKit

/-- The numbers, one behind the other, added to nothing. -/
def addsF (l : List Int) : Int × List Int := l.foldl (fun s x => unionF s (0, [x])) (0, [])
theorem adds_from : ∀ (l : List Int) {s : Int × List Int}, Small s → (∀ x ∈ l, 1 ≤ x ∧ x ≤ 50) → Small (l.foldl (fun s x => unionF s (0, [x])) s) ∧ ∀ t, Mem t (l.foldl (fun s x => unionF s (0, [x])) s) ↔ Mem t s ∨ t ∈ l
  | [], s, hs, _ => ⟨hs, fun t => by simp⟩
  | x :: l, s, hs, h => by
    have hx := h x (by simp)
    obtain ⟨h1, h2⟩ := addF_ok hs.1 (by have := hs.2.2.1; omega) hx.1
    have h3 : Small (unionF s (0, [x])) := small_of h1 fun y hy => by
      rcases (h2 y).mp hy with hy | hy
      · exact hs.2.1 y hy
      · omega
    obtain ⟨h4, h5⟩ := adds_from l h3 fun y hy => h y (by simp [hy])
    refine ⟨h4, fun t => ?_⟩
    rw [List.foldl_cons, h5 t, h2 t, List.mem_cons, or_assoc]
theorem adds_small {l : List Int} (h : ∀ x ∈ l, 1 ≤ x ∧ x ≤ 50) : Small (addsF l) ∧ ∀ t, Mem t (addsF l) ↔ t ∈ l := by
  have h0 : Small (0, []) := small_of ⟨Int.le_refl _, List.Pairwise.nil, fun z hz => by simp at hz⟩ fun x hx => by
    unfold Mem at hx; simp at hx; omega
  obtain ⟨h1, h2⟩ := adds_from l h0 h
  refine ⟨h1, fun t => (h2 t).trans ?_⟩
  unfold Mem
  simp
  omega
theorem adds_snoc {l : List Int} {k : Nat} (hk : k < l.length) : addsF (l.take (k + 1)) = unionF (addsF (l.take k)) (0, [l.getD k 0]) := by
  unfold addsF
  rw [take_next l k hk, List.foldl_append]
  rfl
theorem adds_perm {l m : List Int} (h : ∀ x ∈ l, 1 ≤ x ∧ x ≤ 50) (hp : l.Perm m) : addsF l = addsF m := by
  have hm : ∀ x ∈ m, 1 ≤ x ∧ x ≤ 50 := fun x hx => h x (hp.mem_iff.mpr hx)
  obtain ⟨h1, h2⟩ := adds_small h
  obtain ⟨h3, h4⟩ := adds_small hm
  exact Ok.ext h1.1 h3.1 fun t => by rw [h2 t, h4 t, hp.mem_iff]
theorem adds_has {l : List Int} (h : ∀ x ∈ l, 1 ≤ x ∧ x ≤ 50) (t : Int) : hasOf (addsF l).1 (addsF l).2 t = decide (t ∈ l) := by
  obtain ⟨h1, h2⟩ := adds_small h
  rw [Bool.eq_iff_iff, has_mem h1.1, h2 t, decide_eq_true_iff]
theorem adds_top {l : List Int} (h : ∀ x ∈ l, 1 ≤ x ∧ x ≤ 50) : topOf (addsF l).1 (addsF l).2 ≤ 50 := by
  obtain ⟨h1, h2⟩ := adds_small h
  have hm : ∀ t, Mem t (addsF l) → t ≤ 50 := fun t ht => (h t ((h2 t).mp ht)).2
  generalize addsF l = s at *
  obtain ⟨u, zs⟩ := s
  by_cases hz : zs = []
  · subst hz
    show u ≤ 50
    by_cases hu : 1 ≤ u
    · exact hm u (Or.inl ⟨hu, Int.le_refl _⟩)
    · omega
  · exact hm _ (Or.inr (top_mem hz))
theorem adds_count {l : List Int} (h : ∀ x ∈ l, 1 ≤ x ∧ x ≤ 50) : (membF (addsF l) 50 : Int) = (addsF l).1 + (addsF l).2.length := memb_count (adds_small h).1.1 50 (adds_top h)
theorem memb_step {l : List Int} (h : ∀ x ∈ l, 1 ≤ x ∧ x ≤ 50) (k : Nat) : membF (addsF l) (k + 1) = membF (addsF l) k + if ((k : Int) + 1) ∈ l then 1 else 0 := by
  show membF (addsF l) k + (if hasOf (addsF l).1 (addsF l).2 ((k : Int) + 1) then 1 else 0) = _
  rw [adds_has h]
  simp

/-- How the law makes a number. -/
def elO (y : Int) : Int := 1 + modF y 50
theorem elO_bd (y : Int) : 1 ≤ elO y ∧ elO y ≤ 50 := by
  have := mod_bd y 50 (by omega) (by omega)
  unfold elO; omega

/-- A struct's own block. -/
def BoxAt (w : World) (g : Nat) (s : Int × List Int) (A : Option Addr) (c : Nat) : Prop := w.heap[g]? = some (.cells #[.int .i64 s.1, .slice A s.2.length c] 27 (0, 0))
theorem BoxAt.facts {w : World} {g : Nat} {s : Int × List Int} {A : Option Addr} {c : Nat} (h : BoxAt w g s A c) :
    w.cell? ⟨g, 0, none⟩ = some (.int .i64 s.1) ∧ w.cell? ⟨g, 1, none⟩ = some (.slice A s.2.length c) ∧ w.frozen? ⟨g, 0, none⟩ = false ∧ w.frozen? ⟨g, 1, none⟩ = false ∧ g < w.heap.size := by
  unfold BoxAt at h
  refine ⟨by have := cell_of_row w g 0 _ _ _ h; simpa using this, by have := cell_of_row w g 1 _ _ _ h; simpa using this, by simp [World.frozen?, h], by simp [World.frozen?, h], ?_⟩
  rcases Nat.lt_or_ge g w.heap.size with hlt | hge
  · exact hlt
  · rw [Array.getElem?_eq_none hge] at h; cases h
theorem BoxAt.keep {w w' : World} {g B : Nat} {s : Int × List Int} {A : Option Addr} {c : Nat} (h : BoxAt w g s A c) (hb : Below B w w') (hg : g < B) : BoxAt w' g s A c := (hb.block g hg).trans h
theorem BoxAt.grown {w w' : World} {g : Nat} {row : Option Nat} {s : Int × List Int} {A : Option Addr} {c : Nat} (h : BoxAt w g s A c) (hg : w.grownBy w' row) (hne : some g ≠ row) : BoxAt w' g s A c := (hg.block g h.facts.2.2.2.2 hne).trans h
theorem BoxAt.far {w : World} {g : Nat} {s : Int × List Int} {A : Option Addr} {c : Nat} (h : BoxAt w g s A c) {p : Addr} (hp : g ≠ p.block) (u : Value) : BoxAt (w.setCell p u) g s A c := (Below.heap_setCell w p u g hp).trans h
theorem BoxAt.store {w : World} {g : Nat} {s t : Int × List Int} {A A' : Option Addr} {c c' : Nat} (h : BoxAt w g s A c) : BoxAt ((w.setCell ⟨g, 0, none⟩ (.int .i64 t.1)).setCell ⟨g, 1, none⟩ (.slice A' t.2.length c')) g t A' c' := by
  have h1 := heap_setCell_same w g 0 _ _ (.int .i64 t.1) h
  have h2 := heap_setCell_same _ g 1 _ _ (.slice A' t.2.length c') h1
  exact h2

/-- A row of the call's own of these numbers. -/
def OwnI (w : World) (B : Nat) (A : Option Addr) (n c : Nat) (zs : List Int) : Prop := w.ownsRow B 3 1 (.slice A n c) n (zs.map (.int .i64))
theorem OwnI.len {w : World} {B : Nat} {A : Option Addr} {n c : Nat} {zs : List Int} (h : OwnI w B A n c zs) : zs.length = n := by have := h.1; simpa using this
theorem OwnI.below {w w' : World} {B : Nat} {A : Option Addr} {n c : Nat} {zs : List Int} (h : OwnI w B A n c zs) (hb : Below w.heap.size w w') : OwnI w' B A n c zs := _root_.Go.Proofs.Ytlalonchdfcjgaa.own_below h hb
theorem OwnI.far {w : World} {B : Nat} {A : Option Addr} {n c : Nat} {zs : List Int} (h : OwnI w B A n c zs) {p : Addr} (hp : p.block < B) (u : Value) : OwnI (w.setCell p u) B A n c zs :=
  own_setCell h (fun e => by have := (h.lt _ e).1; omega) u
theorem OwnI.grown {w w' : World} {B : Nat} {A : Option Addr} {n c : Nat} {zs : List Int} {row : Option Nat} (h : OwnI w B A n c zs) (hg : w.grownBy w' row) (hne : row = none ∨ Value.ownBlock (.slice A n c) ≠ row) : OwnI w' B A n c zs :=
  World.ownsRow.kept (row := row) h hg (by
    rcases hne with rfl | hne
    · cases hv : Value.ownBlock (.slice A n c) <;> simp
    · exact .inr hne)
end Go.Proofs.Ytlalonchdfcjgaa
