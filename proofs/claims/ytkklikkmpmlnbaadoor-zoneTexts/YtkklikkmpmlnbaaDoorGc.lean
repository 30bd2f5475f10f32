/- Rows of structs of the call's own: a store of one element; append inside a drawn region. -/
import Derived.Test.YtkklikkmpmlnbaaDoorGb
import Derived.Laws.OwnMore
namespace Go.Proofs.YtkklikkmpmlnbaaDoor
open Go.RowKit

def setsAt : List Value → Nat → List Value → List Value
  | l, _, [] => l
  | l, o, v :: vs => setsAt (l.set o v) (o + 1) vs
def wsets : World → Nat → Nat → List Value → World
  | w, _, _, [] => w
  | w, g, o, v :: vs => wsets (w.setCell ⟨g, o, none⟩ v) g (o + 1) vs
theorem setsAt_length : ∀ (vs l : List Value) (o : Nat), (setsAt l o vs).length = l.length
  | [], _, _ => rfl
  | v :: vs, l, o => by unfold setsAt; rw [setsAt_length vs]; simp
theorem setsAt_get : ∀ (vs l : List Value) (o i : Nat), o + vs.length ≤ l.length → (setsAt l o vs)[i]? = if o ≤ i ∧ i < o + vs.length then vs[i - o]? else l[i]?
  | [], l, o, i, _ => by unfold setsAt; rw [if_neg (by simp)]
  | v :: vs, l, o, i, h => by
    unfold setsAt
    rw [setsAt_get vs (l.set o v) (o + 1) i (by simp at h ⊢; omega)]
    simp only [List.length_cons] at h ⊢
    by_cases h1 : o = i
    · subst h1
      rw [if_neg (by omega), if_pos (by omega)]
      simp [show o < l.length by omega]
    · by_cases h2 : o + 1 ≤ i ∧ i < o + 1 + vs.length
      · rw [if_pos h2, if_pos (by omega), show i - o = (i - (o + 1)) + 1 by omega, List.getElem?_cons_succ]
      · rw [if_neg h2, if_neg (by omega), List.getElem?_set_ne h1]
section
variable {α : Type} {cf : α → List Value} {d by' : Nat} {z : Value} {sl e : TypeId}
theorem rowCells_put (T : RowTy cf d by' z sl e) {zs : List α} {k : Nat} (hk : k < zs.length) (x : α) : setsAt (rowCells cf zs) (k * d) (cf x) = rowCells cf (zs.set k x) := by
  have hl := T.len
  have hkd : k * d + d ≤ zs.length * d := by
    have := Nat.mul_le_mul_right d (Nat.succ_le_of_lt hk)
    rw [Nat.succ_mul] at this
    exact this
  apply List.ext_getElem?
  intro i
  rw [setsAt_get _ _ _ _ (by rw [rowCells_length hl, hl]; exact hkd), hl x]
  by_cases hi : i < zs.length * d
  · have hq : i / d < zs.length := Nat.div_lt_of_lt_mul (by rw [Nat.mul_comm]; exact hi)
    have ei : i = i / d * d + i % d := by have := Nat.div_add_mod i d; rw [Nat.mul_comm] at this; omega
    have hr : i % d < d := Nat.mod_lt _ T.pos
    have r1 : (rowCells cf (zs.set k x))[i]? = (cf ((zs.set k x)[i / d]'(by simpa using hq)))[i % d]? := by
      conv => lhs; rw [ei]
      exact rowCells_get hl (zs.set k x) (i / d) (by simpa using hq) (i % d) hr
    have r2 : (rowCells cf zs)[i]? = (cf zs[i / d])[i % d]? := by
      conv => lhs; rw [ei]
      exact rowCells_get hl zs (i / d) hq (i % d) hr
    rw [r1, List.getElem_set]
    by_cases h1 : k = i / d
    · rw [if_pos h1, if_pos (by subst h1; omega)]
      congr 1
      subst h1
      omega
    · rw [if_neg h1, if_neg ?_, r2]
      intro h2
      apply h1
      have h3 : k ≤ i / d := (Nat.le_div_iff_mul_le T.pos).mpr h2.1
      have h4 : i / d < k + 1 := (Nat.div_lt_iff_lt_mul T.pos).mpr (by rw [Nat.add_mul, Nat.one_mul]; exact h2.2)
      omega
  · rw [if_neg (by omega), List.getElem?_eq_none (by rw [rowCells_length hl]; omega), List.getElem?_eq_none (by rw [rowCells_length hl, List.length_set]; omega)]
theorem own_sets {B g n cap : Nat} : ∀ (vs : List Value) (o : Nat) (w : World) (xs : List Value), w.ownsRow B e d (.slice (some ⟨g, 0, none⟩) n cap) n xs → (wsets w g o vs).ownsRow B e d (.slice (some ⟨g, 0, none⟩) n cap) n (setsAt xs o vs)
  | [], _, _, _, h => h
  | v :: vs, o, _, _, h => own_sets vs (o + 1) _ _ (h.stored o v).1
theorem own_put (T : RowTy cf d by' z sl e) {w : World} {B g n cap k : Nat} {zs : List α} (h : w.ownsRow B e d (.slice (some ⟨g, 0, none⟩) n cap) n (rowCells cf zs)) (hk : k < zs.length) (x : α) : (wsets w g (k * d) (cf x)).ownsRow B e d (.slice (some ⟨g, 0, none⟩) n cap) n (rowCells cf (zs.set k x)) := by
  rw [← rowCells_put T hk x]
  exact own_sets _ _ _ _ h
theorem below_wsets {B g : Nat} {w0 : World} (hg : B ≤ g) : ∀ (vs : List Value) (o : Nat) (w : World), Below B w0 w → Below B w0 (wsets w g o vs)
  | [], _, _, h => h
  | v :: vs, o, _, h => below_wsets hg vs (o + 1) _ (h.setCell (by simpa using hg) v)
theorem step_append_row (T : RowTy cf d by' z sl e) {ops : Array Oper} {o : Oper} {a : Act} {K : Act → World → Prop} {Q : Exit → Act → World → Prop} {E : Prop} (hgd : o.guard = none) (s x : Operand) (ho : o.op = .call { callee := .builtin .append, args := #[s, x], argTypes := #[sl, sl] })
    {w : World} {B B' : Nat} {v : Value} {n : Nat} {zs : List α} (hs : a.eval s = v) (hown : w.ownsRow B e d v n (rowCells cf zs)) {A : Option Addr} {m : Nat} {ys : List α} {c : Nat} (hx : a.eval x = .slice A m c)
    (hr : RowAt cf d w B' A m ys) (hb : n + m ≤ 1099511627776) (hB : B ≤ w.heap.size)
    (h : ∀ A' c' w', w'.ownsRow B e d (.slice A' (n + m) c') (n + m) (rowCells cf (zs ++ ys)) → w.grownBy w' v.ownBlock → (Value.ownBlock (.slice A' (n + m) c') = v.ownBlock ∨ Value.ownBlock (.slice A' (n + m) c') = some w.heap.size) → K (a.put o.dst (.slice A' (n + m) c')) w') :
    if Region.wanted o (yielded ops a.tmps) = true then Oper.wp Tryd.prog o a w K Q else E := by
  have hw : Region.wanted o (yielded ops a.tmps) = true := by simp [Region.wanted, hgd]
  rw [if_pos hw]
  exact wp_append_row T s x ho hs hown hx hr hb hB h
end
end Go.Proofs.YtkklikkmpmlnbaaDoor
