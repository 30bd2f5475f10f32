/- Rows of structs of the call's own: append onto them. -/
import Derived.Test.YtkklikkmpmlnbaaDoorGa
import Derived.OwnWalk
import Derived.Maps.AppendAt
import Derived.Deep.AppendLies
import Derived.Deep.RegionLaw
import Derived.Deep.RegionHeld3
namespace Go.Proofs.YtkklikkmpmlnbaaDoor
open Go.RowKit

def rowCells {α : Type} (cf : α → List Value) (zs : List α) : List Value := zs.flatMap cf
/-- A slice type and its element's, whose values are laid by cf in d cells. -/
structure RowTy {α : Type} (cf : α → List Value) (d by' : Nat) (z : Value) (sl e : TypeId) : Prop where
  u : Tryd.prog.underlying sl = some (.slice e)
  i : (Tryd.prog.info? e).map (fun i => (i.zero, i.size, i.bytes)) = some (some z, d, by')
  zs : z.cells.size = d
  pos : 0 < d
  small : by' ≤ 128
  len : ∀ x, (cf x).length = d
  one : ∀ x, ∀ u ∈ cf x, u.oneCell' = true
theorem rowCells_append {α : Type} (cf : α → List Value) (xs ys : List α) : rowCells cf (xs ++ ys) = rowCells cf xs ++ rowCells cf ys := by simp [rowCells]
theorem rowCells_length {α : Type} {cf : α → List Value} {d : Nat} (hl : ∀ x, (cf x).length = d) (zs : List α) : (rowCells cf zs).length = zs.length * d := by
  induction zs with
  | nil => simp [rowCells]
  | cons x r ih =>
    have := hl x
    simp only [rowCells, List.flatMap_cons, List.length_append, List.length_cons] at ih ⊢
    rw [ih, this, Nat.add_mul, Nat.one_mul, Nat.add_comm]
theorem rowCells_get {α : Type} {cf : α → List Value} {d : Nat} (hl : ∀ x, (cf x).length = d) : ∀ (zs : List α) (k : Nat) (hk : k < zs.length) (j : Nat), j < d → (rowCells cf zs)[k * d + j]? = (cf zs[k])[j]? := by
  intro zs
  induction zs with
  | nil => intro k hk; simp at hk
  | cons x r ih =>
    intro k hk j hj
    have hx := hl x
    cases k with
    | zero =>
      simp only [rowCells, List.flatMap_cons, Nat.zero_mul, Nat.zero_add, List.getElem_cons_zero]
      rw [List.getElem?_append_left (by omega)]
    | succ k =>
      have := ih k (by simpa using hk) j hj
      simp only [rowCells, List.flatMap_cons, List.getElem_cons_succ] at this ⊢
      rw [List.getElem?_append_right (by rw [Nat.add_mul]; omega), hx, show (k + 1) * d + j - d = k * d + j by rw [Nat.add_mul]; omega]
      exact this
theorem rowCells_some {α : Type} {cf : α → List Value} {d : Nat} (hl : ∀ x, (cf x).length = d) (hd : 0 < d) {zs : List α} {j : Nat} {u : Value} (h : (rowCells cf zs)[j]? = some u) : ∃ k, ∃ hk : k < zs.length, j = k * d + j % d ∧ (cf zs[k])[j % d]? = some u := by
  have hj : j < zs.length * d := by
    have := (List.getElem?_eq_some_iff.mp h).1
    rwa [rowCells_length hl] at this
  have hk : j / d < zs.length := Nat.div_lt_of_lt_mul (by rw [Nat.mul_comm]; exact hj)
  have e : j = j / d * d + j % d := by have := Nat.div_add_mod j d; rw [Nat.mul_comm] at this; omega
  refine ⟨j / d, hk, e, ?_⟩
  rw [← rowCells_get hl zs (j / d) hk (j % d) (Nat.mod_lt _ hd), ← e]
  exact h
theorem radd (b o j : Nat) : (⟨b, o, none⟩ : Addr).add j = ⟨b, o + j, none⟩ := by unfold Addr.add; split <;> simp_all

section
variable {α : Type} {cf : α → List Value} {d by' : Nat} {z : Value} {sl e : TypeId}
theorem RowTy.mem (T : RowTy cf d by' z sl e) {zs : List α} : ∀ u ∈ rowCells cf zs, u.oneCell' = true := by
  intro u hu
  simp only [rowCells, List.mem_flatMap] at hu
  obtain ⟨x, _, hx⟩ := hu
  exact T.one x u hx
theorem row_cells (T : RowTy cf d by' z sl e) {w : World} {B : Nat} {ad : Addr} {m : Nat} {ys : List α} (h : RowAt cf d w B (some ad) m ys) : ∀ j u, (rowCells cf ys)[j]? = some u → w.cell? (ad.add j) = some u := by
  intro j u hu
  obtain ⟨k, hk, hj, hu'⟩ := rowCells_some T.len T.pos hu
  obtain ⟨b, off, e, _, hc⟩ := h.2 (by have := h.1; omega)
  injection e with e
  subst e
  rw [radd, hj, ← Nat.add_assoc]
  exact hc k hk _ u hu'
theorem rown_form {w : World} {B : Nat} {v : Value} {n : Nat} {xs : List Value} (h : w.ownsRow B e d v n xs) : ∃ A c, v = .slice A n c := by
  rcases h.2 with ⟨rfl, rfl⟩ | ⟨g, cap, _, rfl, _⟩
  · exact ⟨none, 0, rfl⟩
  · exact ⟨_, cap, rfl⟩
theorem own_row (T : RowTy cf d by' z sl e) {w : World} {B : Nat} {A : Option Addr} {n c : Nat} {zs : List α} (h : w.ownsRow B e d (.slice A n c) n (rowCells cf zs)) : RowAt cf d w w.heap.size A n zs := by
  have hl : zs.length = n := by
    have := h.1
    rw [rowCells_length T.len] at this
    exact Nat.eq_of_mul_eq_mul_right T.pos this
  refine ⟨hl, fun hn => ?_⟩
  have hh := h
  obtain ⟨g, cap, hv, _, hlt⟩ := h.form hn
  injection hv with hA
  subst hA
  refine ⟨g, 0, rfl, hlt, fun k hk j u hu => ?_⟩
  have hj : j < d := by
    have := (List.getElem?_eq_some_iff.mp hu).1
    rwa [T.len] at this
  have h1 := rowCells_get T.len zs k hk j hj
  have h2 := hh.cells (g := g) rfl (k * d + j) u (h1.trans hu)
  rw [radd] at h2
  rw [show 0 + k * d + j = 0 + (k * d + j) by omega]
  exact h2
theorem rown_cap {w : World} {B : Nat} {A : Option Addr} {n c : Nat} {xs : List Value} (h : w.ownsRow B e d (.slice A n c) n xs) : n ≤ c := by
  rcases h.2 with ⟨h1, rfl⟩ | ⟨g, cap, _, h1, _, _, hc, _⟩
  · omega
  · injection h1 with _ _ h3; omega
theorem run_append_row (T : RowTy cf d by' z sl e) {ty : TypeId} {w : World} {B B' : Nat} {v : Value} {n : Nat} {zs : List α} (hown : w.ownsRow B e d v n (rowCells cf zs)) {A : Option Addr} {m : Nat} {ys : List α} (c : Nat)
    (hr : RowAt cf d w B' A m ys) (hb : n + m ≤ 1099511627776) (hB : B ≤ w.heap.size) :
    ∃ v' w', (Builtin.append_ #[sl, sl] ty #[v, .slice A m c]).run Tryd.prog w = .ok v' w' ∧ w'.ownsRow B e d v' (n + m) (rowCells cf (zs ++ ys)) ∧ w.grownBy w' v.ownBlock ∧ (v'.ownBlock = v.ownBlock ∨ v'.ownBlock = some w.heap.size) := by
  obtain ⟨i, hi, hz0, hz1, hz2⟩ := info_parts T.i
  rcases A with _ | ad
  · have hm : m = 0 := by
      rcases Nat.eq_zero_or_pos m with h0 | h0
      · exact h0
      · obtain ⟨_, _, h, _⟩ := hr.2 h0
        cases h
    subst hm
    have hy : ys = [] := List.eq_nil_of_length_eq_zero hr.1
    subst hy
    refine ⟨v, w, ?_, by simpa using hown, World.grownBy.refl w _, .inl rfl⟩
    rcases hown.2 with ⟨rfl, rfl⟩ | ⟨g, cap, cur, rfl, _, _, hnc, _⟩
    · simp [Builtin.append_, run_underlying T.u, sizeOf, typeInfo, hi, Builtin.lenOf, Builtin.firstCells]
    · simp [Builtin.append_, run_underlying T.u, sizeOf, typeInfo, hi, Builtin.lenOf, Builtin.firstCells, hnc, storeCells]
  · have hs : (n + m) * by' ≤ 140737488355328 := by
      have := Nat.mul_le_mul hb T.small
      omega
    obtain ⟨v', w', hrun, h2, h3, _, h5⟩ := run_append_own_at (P := Tryd.prog) w B sl ty e i z d by' T.u hi hz0 hz1 hz2 T.zs T.pos v n _ hown ad m c (rowCells cf ys) (by rw [rowCells_length T.len, hr.1]) (row_cells T hr)
      T.mem (by unfold maxLen; omega) hs hB
    exact ⟨v', w', hrun, by rw [rowCells_append]; exact h2, h3, h5⟩
theorem wp_append_row (T : RowTy cf d by' z sl e) {o : Oper} {a : Act} {K : Act → World → Prop} {Q : Exit → Act → World → Prop} (s x : Operand) (ho : o.op = .call { callee := .builtin .append, args := #[s, x], argTypes := #[sl, sl] })
    {w : World} {B B' : Nat} {v : Value} {n : Nat} {zs : List α} (hs : a.eval s = v) (hown : w.ownsRow B e d v n (rowCells cf zs)) {A : Option Addr} {m : Nat} {ys : List α} {c : Nat} (hx : a.eval x = .slice A m c)
    (hr : RowAt cf d w B' A m ys) (hb : n + m ≤ 1099511627776) (hB : B ≤ w.heap.size)
    (h : ∀ A' c' w', w'.ownsRow B e d (.slice A' (n + m) c') (n + m) (rowCells cf (zs ++ ys)) → w.grownBy w' v.ownBlock → (Value.ownBlock (.slice A' (n + m) c') = v.ownBlock ∨ Value.ownBlock (.slice A' (n + m) c') = some w.heap.size) → K (a.put o.dst (.slice A' (n + m) c')) w') : o.wp Tryd.prog a w K Q := by
  obtain ⟨v', w', hrun, h2, h3, h4⟩ := run_append_row T (ty := o.type) hown c hr hb hB
  obtain ⟨A', c', rfl⟩ := rown_form h2
  unfold Oper.wp execOp
  simp only [ho, resolve, invoke, builtin, Sem.run_bind, Sem.run_pure, Result.andThen_ok, List.map_toArray, List.map_cons, List.map_nil, hs, hx, hrun]
  exact h A' c' w' h2 h3 h4
theorem wpList_append_row (T : RowTy cf d by' z sl e) {ops : Array Oper} {rest : List Oper} {o : Oper} {a : Act} {Q : Exit → Act → World → Prop} (hgd : o.guard = none) (s x : Operand) (ho : o.op = .call { callee := .builtin .append, args := #[s, x], argTypes := #[sl, sl] })
    {w : World} {B B' : Nat} {v : Value} {n : Nat} {zs : List α} (hs : a.eval s = v) (hown : w.ownsRow B e d v n (rowCells cf zs)) {A : Option Addr} {m : Nat} {ys : List α} {c : Nat} (hx : a.eval x = .slice A m c)
    (hr : RowAt cf d w B' A m ys) (hb : n + m ≤ 1099511627776) (hB : B ≤ w.heap.size)
    (h : ∀ A' c' w', w'.ownsRow B e d (.slice A' (n + m) c') (n + m) (rowCells cf (zs ++ ys)) → w.grownBy w' v.ownBlock → (Value.ownBlock (.slice A' (n + m) c') = v.ownBlock ∨ Value.ownBlock (.slice A' (n + m) c') = some w.heap.size) → wpList Tryd.prog ops Q rest (a.put o.dst (.slice A' (n + m) c')) w') :
    wpList Tryd.prog ops Q (o :: rest) a w :=
  wpList_plain hgd fun _ hK => wp_append_row T s x ho hs hown hx hr hb hB fun A' c' w' h2 h3 h4 => hK _ _ (h A' c' w' h2 h3 h4)
theorem one_row (T : RowTy cf d by' z sl e) {w : World} {g : Nat} {e' : TypeId} {x : α} {fr : Nat × Nat} (h : w.heap[g]? = some (.cells (cf x).toArray e' fr)) : RowAt cf d w (g + 1) (some ⟨g, 0, none⟩) 1 [x] :=
  ⟨rfl, fun _ => ⟨_, _, rfl, by omega, fun k hk j u hu => by
    obtain rfl : k = 0 := by simpa using hk
    have hj : j < d := by
      have := (List.getElem?_eq_some_iff.mp hu).1
      simpa [T.len] using this
    have := cell_of_row w g j _ _ _ h
    simp only [List.getElem_cons_zero] at hu
    simpa [hu] using this⟩⟩
theorem rown_nil (w : World) (B : Nat) : w.ownsRow B e d (.slice none 0 0) 0 (rowCells cf ([] : List α)) := ⟨by simp [rowCells], .inl ⟨rfl, rfl⟩⟩
theorem rown_grown {w w' : World} {B : Nat} {v : Value} {n : Nat} {xs : List Value} (h : w.ownsRow B e d v n xs) {row : Option Nat} (hg : w.grownBy w' row) (hne : row = none ∨ v.ownBlock ≠ row) : w'.ownsRow B e d v n xs :=
  h.kept (row := row) hg (by
    rcases hne with rfl | hne
    · cases hv : v.ownBlock <;> simp
    · exact .inr hne)
theorem rgrown_of_below {w w' : World} (h : Below w.heap.size w w') (row : Option Nat) : w.grownBy w' row := ⟨h.os, h.tape, h.output, h.size, fun k hk _ => h.block k hk⟩
theorem rown_below {w w' : World} {B : Nat} {v : Value} {n : Nat} {xs : List Value} (h : w.ownsRow B e d v n xs) (hb : Below w.heap.size w w') : w'.ownsRow B e d v n xs :=
  rown_grown h (rgrown_of_below hb none) (.inl rfl)
theorem rown_base {w : World} {B B' : Nat} {v : Value} {n : Nat} {xs : List Value} (h : w.ownsRow B e d v n xs) (hB : B' ≤ B) : w.ownsRow B' e d v n xs := by
  refine ⟨h.1, ?_⟩
  rcases h.2 with h0 | ⟨g, cap, cur, h1, h2, h3⟩
  · exact .inl h0
  · exact .inr ⟨g, cap, cur, h1, Nat.le_trans hB h2, h3⟩
/-- A row of the call's own is answered. -/
def OwnRow (cf : α → List Value) (d : Nat) (e : TypeId) (zs : List α) (w : World) (en : Ending) (w' : World) : Prop :=
  ∃ A c, en = .returned (.slice A zs.length c) ∧ w'.ownsRow w.heap.size e d (.slice A zs.length c) zs.length (rowCells cf zs) ∧ Below w.heap.size w w'
end
end Go.Proofs.YtkklikkmpmlnbaaDoor
