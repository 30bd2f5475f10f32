/- vec.Right, and the document's. -/
import Derived.Test.YtkdeiljbjpefhaaDoorVc
namespace Go.Proofs.YtkdeiljbjpefhaaDoor
open Go.RowKit

theorem quiet_same {P : Program} {f : FuncId} {args : Array Value} {w : World} {n : Nat} {v : Value} (h : Calls P f args (w.drewN n) fun e w' => e = .returned v ∧ w.drewN n = w') : Calls P f args (w.drewN n) fun e w'' => e = .returned v ∧ ∃ m, w'' = w.drewN m :=
  h.mono fun _ _ ⟨he, hm⟩ => ⟨he, n, hm.symm⟩
theorem quiet_drawn {P : Program} {f : FuncId} {args : Array Value} {w : World} {n : Nat} {v : Value} (h : Calls P f args (w.drewN n) fun e w' => e = .returned v ∧ Hid (Drawn (w.drewN n) w')) : Calls P f args (w.drewN n) fun e w'' => e = .returned v ∧ ∃ m, w'' = w.drewN m :=
  h.mono fun _ _ ⟨he, hm⟩ => ⟨he, by obtain ⟨m, rfl⟩ := hm.out; exact ⟨n + m, by rw [World.drewN_drewN]⟩⟩

/-- May the one stand in a Vec? -/
def okAt (x : At) : Bool := rightL x.1.data.toList && (decide (1 ≤ x.2) && decide (x.2 ≤ 1048576))
/-- May it be? -/
def rightV (zs : List At) : Bool := (List.range zs.length).all fun k => okAt (zs.getD k atNil) && (k == 0 || decide (cmpId (zs.getD (k - 1) atNil).1 (zs.getD k atNil).1 < 0))
/-- Up to k nothing is wrong. -/
def RightTo (zs : List At) (k : Nat) : Prop := ∀ j, j < k → okAt (zs.getD j atNil) = true ∧ (0 < j → cmpId (zs.getD (j - 1) atNil).1 (zs.getD j atNil).1 < 0)
theorem rightTo_zero (zs : List At) : RightTo zs 0 := fun j hj => by omega
theorem rightTo_succ {zs : List At} {k : Nat} (h : RightTo zs k) (h1 : okAt (zs.getD k atNil) = true) (h2 : 0 < k → cmpId (zs.getD (k - 1) atNil).1 (zs.getD k atNil).1 < 0) : RightTo zs (k + 1) := fun j hj => by
  by_cases e : j = k
  · subst e; exact ⟨h1, h2⟩
  · exact h j (by omega)
theorem rightV_iff (zs : List At) : rightV zs = true ↔ RightTo zs zs.length := by
  unfold rightV RightTo
  rw [List.all_eq_true]
  constructor
  · intro h j hj
    have := h j (List.mem_range.mpr hj)
    rw [Bool.and_eq_true, Bool.or_eq_true, beq_iff_eq, decide_eq_true_iff] at this
    exact ⟨this.1, fun h0 => this.2.resolve_left (by omega)⟩
  · intro h j hj
    have := h j (List.mem_range.mp hj)
    rw [Bool.and_eq_true, Bool.or_eq_true, beq_iff_eq, decide_eq_true_iff]
    refine ⟨this.1, ?_⟩
    by_cases h0 : j = 0
    · exact Or.inl h0
    · exact Or.inr (this.2 (by omega))
theorem rightV_no {zs : List At} {k : Nat} (hk : k < zs.length) (h : okAt (zs.getD k atNil) = false ∨ (0 < k ∧ ¬ cmpId (zs.getD (k - 1) atNil).1 (zs.getD k atNil).1 < 0)) : rightV zs = false := by
  rw [Bool.eq_false_iff]
  intro e
  have := (rightV_iff zs).mp e k hk
  rcases h with h | h
  · rw [h] at this; exact absurd this.1 (by simp)
  · exact h.2 (this.2 h.1)
theorem okAt_no {x : At} (h : rightL x.1.data.toList = false ∨ x.2 < 1 ∨ 1048576 < x.2) : okAt x = false := by
  unfold okAt
  rcases h with h | h | h
  · rw [h]; rfl
  · rw [decide_eq_false (show ¬ 1 ≤ x.2 by omega)]; simp
  · rw [decide_eq_false (show ¬ x.2 ≤ 1048576 by omega)]; simp
theorem okAt_yes {x : At} (h : rightL x.1.data.toList = true) (h1 : ¬ x.2 < 1) (h2 : ¬ 1048576 < x.2) : okAt x = true := by
  unfold okAt
  rw [h, decide_eq_true (show 1 ≤ x.2 by omega), decide_eq_true (show x.2 ≤ 1048576 by omega)]; rfl

end Go.Proofs.YtkdeiljbjpefhaaDoor
