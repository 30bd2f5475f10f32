/- Rows of ids and numbers (Vec): how they lie in memory; append onto a row of the call's own. -/
import Derived.Test.YtbbcifcdimfdgaaIx
import Derived.Test.YtbbcifcdimfdgaaVm
import Derived.Maps.AppendAt
import Derived.Deep.AppendLies
import Derived.Deep.RegionLaw
import Derived.Deep.RegionHeld3
namespace Go.Proofs.Ytbbcifcdimfdgaa
open Go.RowKit

def atCells (zs : List At) : List Value := zs.flatMap fun x => [.string x.1, .int .i64 x.2]

/-- In w the slice (A, n) holds the ids and numbers zs, in a block below B. -/
def VecAt (w : World) (B : Nat) (A : Option Addr) (n : Nat) (zs : List At) : Prop :=
  zs.length = n ∧ (0 < n → ∃ b off, A = some ⟨b, off, none⟩ ∧ b < B ∧ ∀ k, k < n → w.cell? ⟨b, off + k * 2, none⟩ = some (.string (zs.getD k atNil).1) ∧ w.cell? ⟨b, off + k * 2 + 1, none⟩ = some (.int .i64 (zs.getD k atNil).2))

theorem VecAt.nil (w : World) (B : Nat) (A : Option Addr) : VecAt w B A 0 [] := ⟨rfl, fun h => absurd h (by omega)⟩
theorem VecAt.hold {w w' : World} {B : Nat} {A : Option Addr} {n : Nat} {zs : List At} (h : VecAt w B A n zs) (hk : ∀ b o, b < B → w'.cell? ⟨b, o, none⟩ = w.cell? ⟨b, o, none⟩) : VecAt w' B A n zs :=
  ⟨h.1, fun hn => by
    obtain ⟨b, off, e, hlt, hc⟩ := h.2 hn
    exact ⟨b, off, e, hlt, fun k hk' => ⟨(hk b _ hlt).trans (hc k hk').1, (hk b _ hlt).trans (hc k hk').2⟩⟩⟩
theorem VecAt.keep {w w' : World} {B : Nat} {A : Option Addr} {n : Nat} {zs : List At} (h : VecAt w B A n zs) (hb : Below B w w') : VecAt w' B A n zs :=
  h.hold fun b o hlt => hb.cell (p := ⟨b, o, none⟩) hlt
theorem VecAt.more {w : World} {B B' : Nat} {A : Option Addr} {n : Nat} {zs : List At} (h : VecAt w B A n zs) (hB : B ≤ B') : VecAt w B' A n zs :=
  ⟨h.1, fun hn => by
    obtain ⟨b, off, e, hlt, hc⟩ := h.2 hn
    exact ⟨b, off, e, by omega, hc⟩⟩
theorem VecAt.drewN {w : World} {B : Nat} {A : Option Addr} {n : Nat} {zs : List At} (h : VecAt w B A n zs) (k : Nat) : VecAt (w.drewN k) B A n zs := h
theorem VecAt.drew {w : World} {B : Nat} {A : Option Addr} {n : Nat} {zs : List At} (h : VecAt w B A n zs) : VecAt w.drew B A n zs := h
theorem VecAt.alloc {w : World} {B : Nat} {A : Option Addr} {n : Nat} {zs : List At} (h : VecAt w B A n zs) (hB : B ≤ w.heap.size) (o : Obj) : VecAt (w.alloc o) B A n zs :=
  h.hold fun b k hlt => World.cell?_alloc_lt w o ⟨b, k, none⟩ (by show b < w.heap.size; omega)
theorem VecAt.grown {w w' : World} {B : Nat} {A : Option Addr} {n : Nat} {zs : List At} {row : Option Nat} (h : VecAt w B A n zs) (hg : w.grownBy w' row) (hB : B ≤ w.heap.size) (hr : ∀ g, row = some g → B ≤ g) : VecAt w' B A n zs :=
  h.hold fun b k hlt => World.cell?_of_block (a := ⟨b, k, none⟩) (hg.block b (by omega) (fun e => by have := hr _ e.symm; omega))
/-- The row behind a cut. -/
theorem VecAt.tail {w : World} {B : Nat} {b off n : Nat} {zs : List At} (h : VecAt w B (some ⟨b, off, none⟩) (n + 1) zs) : VecAt w B (some ⟨b, off + 2, none⟩) n (zs.drop 1) := by
  refine ⟨by rw [List.length_drop, h.1]; rfl, fun hn => ?_⟩
  obtain ⟨b', off', e, hlt, hc⟩ := h.2 (by omega)
  injection e with e
  injection e with e1 e2
  subst e1 e2
  refine ⟨b, off + 2, rfl, hlt, fun k hk => ?_⟩
  have := hc (k + 1) (by omega)
  rw [show off + (k + 1) * 2 = off + 2 + k * 2 by omega] at this
  simpa [List.getD_eq_getElem?_getD, List.getElem?_drop, Nat.add_comm 1 k] using this

theorem atCells_length (zs : List At) : (atCells zs).length = zs.length * 2 := by
  induction zs with
  | nil => rfl
  | cons x r ih => simp only [atCells, List.flatMap_cons, List.length_append, List.length_cons, List.length_nil] at ih ⊢; omega
theorem atCells_append (xs ys : List At) : atCells (xs ++ ys) = atCells xs ++ atCells ys := by simp [atCells]
theorem atCells_get (zs : List At) : ∀ k, k < zs.length → (atCells zs)[k * 2]? = some (.string (zs.getD k atNil).1) ∧ (atCells zs)[k * 2 + 1]? = some (.int .i64 (zs.getD k atNil).2) := by
  induction zs with
  | nil => intro k hk; simp at hk
  | cons x r ih =>
    intro k hk
    cases k with
    | zero => exact ⟨rfl, rfl⟩
    | succ k =>
      have := ih k (by simpa using hk)
      rw [show (k + 1) * 2 = k * 2 + 2 by omega]
      simpa [atCells] using this
theorem atCells_some {zs : List At} {j : Nat} {u : Value} (h : (atCells zs)[j]? = some u) : ∃ k, k < zs.length ∧ ((j = k * 2 ∧ u = .string (zs.getD k atNil).1) ∨ (j = k * 2 + 1 ∧ u = .int .i64 (zs.getD k atNil).2)) := by
  have hj : j < zs.length * 2 := by
    have := (List.getElem?_eq_some_iff.mp h).1
    rwa [atCells_length] at this
  rcases Nat.mod_two_eq_zero_or_one j with hm | hm
  · refine ⟨j / 2, by omega, Or.inl ⟨by omega, ?_⟩⟩
    have := (atCells_get zs (j / 2) (by omega)).1
    rw [show j / 2 * 2 = j by omega, h] at this
    injection this
  · refine ⟨j / 2, by omega, Or.inr ⟨by omega, ?_⟩⟩
    have := (atCells_get zs (j / 2) (by omega)).2
    rw [show j / 2 * 2 + 1 = j by omega, h] at this
    injection this
theorem atCells_one {zs : List At} : ∀ u ∈ atCells zs, u.oneCell' = true := by
  intro u hu
  simp only [atCells, List.mem_flatMap] at hu
  obtain ⟨x, _, hx⟩ := hu
  simp at hx
  rcases hx with rfl | rfl <;> rfl

theorem addr_add (b o j : Nat) : (⟨b, o, none⟩ : Addr).add j = ⟨b, o + j, none⟩ := by unfold Addr.add; split <;> simp_all
theorem vec_cells {w : World} {B : Nat} {ad : Addr} {m : Nat} {ys : List At} (h : VecAt w B (some ad) m ys) : ∀ j u, (atCells ys)[j]? = some u → w.cell? (ad.add j) = some u := by
  intro j u hu
  obtain ⟨k, hk, hj⟩ := atCells_some hu
  obtain ⟨b, off, e, _, hc⟩ := h.2 (by have := h.1; omega)
  injection e with e
  subst e
  have h1 := hc k (by have := h.1; omega)
  rw [addr_add]
  rcases hj with ⟨rfl, rfl⟩ | ⟨rfl, rfl⟩
  · exact h1.1
  · exact h1.2

/-- The two kinds of rows: the program's and the document's. -/
structure AtTy (sl e : TypeId) : Prop where
  u : Try.prog.underlying sl = some (.slice e)
  i : (Try.prog.info? e).map (fun i => (i.zero, i.size, i.bytes)) = some (some (.agg #[.string ⟨#[]⟩, .int .i64 0]), 2, 24)
theorem vecTy : AtTy 37 67 := ⟨Try.underlying37, by kernel_rfl⟩
theorem refTy : AtTy 23 76 := ⟨Try.underlying23, by kernel_rfl⟩

theorem own_form {w : World} {B : Nat} {e : TypeId} {v : Value} {n : Nat} {xs : List Value} (h : w.ownsRow B e 2 v n xs) : ∃ A c, v = .slice A n c := by
  rcases h.2 with ⟨rfl, rfl⟩ | ⟨g, cap, _, rfl, _⟩
  · exact ⟨none, 0, rfl⟩
  · exact ⟨_, cap, rfl⟩
theorem own_vec {w : World} {B : Nat} {e : TypeId} {A : Option Addr} {n c : Nat} {zs : List At} (h : w.ownsRow B e 2 (.slice A n c) n (atCells zs)) : VecAt w w.heap.size A n zs := by
  have hl : zs.length = n := by have := h.1; rw [atCells_length] at this; omega
  refine ⟨hl, fun hn => ?_⟩
  have hh := h
  obtain ⟨g, cap, hv, _, hlt⟩ := h.form hn
  injection hv with hA
  subst hA
  refine ⟨g, 0, rfl, hlt, fun k hk => ?_⟩
  have h1 := atCells_get zs k (by omega)
  have h2 := hh.cells (g := g) rfl (k * 2) _ h1.1
  have h3 := hh.cells (g := g) rfl (k * 2 + 1) _ h1.2
  rw [addr_add] at h2 h3
  exact ⟨h2, h3⟩
theorem own_lt {w : World} {B : Nat} {e : TypeId} {v : Value} {n : Nat} {xs : List Value} (h : w.ownsRow B e 2 v n xs) {g : Nat} (hg : v.ownBlock = some g) : B ≤ g ∧ g < w.heap.size := h.lt g hg

theorem run_append_at {sl e ty : TypeId} (T : AtTy sl e) {w : World} {B B' : Nat} {v : Value} {n : Nat} {zs : List At} (hown : w.ownsRow B e 2 v n (atCells zs)) {A : Option Addr} {m : Nat} {ys : List At} (c : Nat)
    (hr : VecAt w B' A m ys) (hb : n + m ≤ 1099511627776) (hB : B ≤ w.heap.size) :
    ∃ v' w', (Builtin.append_ #[sl, sl] ty #[v, .slice A m c]).run Try.prog w = .ok v' w' ∧ w'.ownsRow B e 2 v' (n + m) (atCells (zs ++ ys)) ∧ w.grownBy w' v.ownBlock ∧ (v'.ownBlock = v.ownBlock ∨ v'.ownBlock = some w.heap.size) := by
  obtain ⟨i, hi, hz0, hz1, hz2⟩ := info_parts T.i
  rcases A with _ | ad
  · have hm : m = 0 := by
      rcases Nat.eq_zero_or_pos m with h0 | h0
      · exact h0
      · obtain ⟨_, _, h, _⟩ := hr.2 h0
        cases h
    subst hm
    have hy : ys = [] := List.eq_nil_of_length_eq_zero hr.1
    subst hy
    refine ⟨v, w, ?_, by simpa using hown, World.grownBy.refl w _, .inl rfl⟩
    rcases hown.2 with ⟨rfl, rfl⟩ | ⟨g, cap, cur, rfl, _, _, hnc, _⟩
    · simp [Builtin.append_, run_underlying T.u, sizeOf, typeInfo, hi, Builtin.lenOf, Builtin.firstCells]
    · simp [Builtin.append_, run_underlying T.u, sizeOf, typeInfo, hi, Builtin.lenOf, Builtin.firstCells, hnc, storeCells]
  · obtain ⟨v', w', hrun, h2, h3, _, h5⟩ := run_append_own_at (P := Try.prog) w B sl ty e i (.agg #[.string ⟨#[]⟩, .int .i64 0]) 2 24 T.u hi hz0 hz1 hz2 rfl (by decide) v n _ hown ad m c (atCells ys) (by rw [atCells_length, hr.1]) (vec_cells hr)
      atCells_one (by unfold maxLen; omega) (by omega) hB
    exact ⟨v', w', hrun, by rw [atCells_append]; exact h2, h3, h5⟩

theorem wp_append_at {o : Oper} {a : Act} {K : Act → World → Prop} {Q : Exit → Act → World → Prop} {sl e : TypeId} (T : AtTy sl e) (s x : Operand) (ho : o.op = .call { callee := .builtin .append, args := #[s, x], argTypes := #[sl, sl] })
    {w : World} {B B' : Nat} {v : Value} {n : Nat} {zs : List At} (hs : a.eval s = v) (hown : w.ownsRow B e 2 v n (atCells zs)) {A : Option Addr} {m : Nat} {ys : List At} {c : Nat} (hx : a.eval x = .slice A m c)
    (hr : VecAt w B' A m ys) (hb : n + m ≤ 1099511627776) (hB : B ≤ w.heap.size)
    (h : ∀ A' c' w', w'.ownsRow B e 2 (.slice A' (n + m) c') (n + m) (atCells (zs ++ ys)) → w.grownBy w' v.ownBlock → (Value.ownBlock (.slice A' (n + m) c') = v.ownBlock ∨ Value.ownBlock (.slice A' (n + m) c') = some w.heap.size) → K (a.put o.dst (.slice A' (n + m) c')) w') : o.wp Try.prog a w K Q := by
  obtain ⟨v', w', hrun, h2, h3, h4⟩ := run_append_at (ty := o.type) T hown c hr hb hB
  obtain ⟨A', c', rfl⟩ := own_form h2
  unfold Oper.wp execOp
  simp only [ho, resolve, invoke, builtin, Sem.run_bind, Sem.run_pure, Result.andThen_ok, List.map_toArray, List.map_cons, List.map_nil, hs, hx, hrun]
  exact h A' c' w' h2 h3 h4
theorem wpList_append_at {ops : Array Oper} {rest : List Oper} {o : Oper} {a : Act} {Q : Exit → Act → World → Prop} {sl e : TypeId} (T : AtTy sl e) (hgd : o.guard = none) (s x : Operand) (ho : o.op = .call { callee := .builtin .append, args := #[s, x], argTypes := #[sl, sl] })
    {w : World} {B B' : Nat} {v : Value} {n : Nat} {zs : List At} (hs : a.eval s = v) (hown : w.ownsRow B e 2 v n (atCells zs)) {A : Option Addr} {m : Nat} {ys : List At} {c : Nat} (hx : a.eval x = .slice A m c)
    (hr : VecAt w B' A m ys) (hb : n + m ≤ 1099511627776) (hB : B ≤ w.heap.size)
    (h : ∀ A' c' w', w'.ownsRow B e 2 (.slice A' (n + m) c') (n + m) (atCells (zs ++ ys)) → w.grownBy w' v.ownBlock → (Value.ownBlock (.slice A' (n + m) c') = v.ownBlock ∨ Value.ownBlock (.slice A' (n + m) c') = some w.heap.size) → wpList Try.prog ops Q rest (a.put o.dst (.slice A' (n + m) c')) w') :
    wpList Try.prog ops Q (o :: rest) a w :=
  wpList_plain hgd fun _ hK => wp_append_at T s x ho hs hown hx hr hb hB fun A' c' w' h2 h3 h4 => hK _ _ (h A' c' w' h2 h3 h4)
theorem step_append_at {ops : Array Oper} {o : Oper} {a : Act} {K : Act → World → Prop} {Q : Exit → Act → World → Prop} {E : Prop} {sl e : TypeId} (T : AtTy sl e) (hgd : o.guard = none) (s x : Operand) (ho : o.op = .call { callee := .builtin .append, args := #[s, x], argTypes := #[sl, sl] })
    {w : World} {B B' : Nat} {v : Value} {n : Nat} {zs : List At} (hs : a.eval s = v) (hown : w.ownsRow B e 2 v n (atCells zs)) {A : Option Addr} {m : Nat} {ys : List At} {c : Nat} (hx : a.eval x = .slice A m c)
    (hr : VecAt w B' A m ys) (hb : n + m ≤ 1099511627776) (hB : B ≤ w.heap.size)
    (h : ∀ A' c' w', w'.ownsRow B e 2 (.slice A' (n + m) c') (n + m) (atCells (zs ++ ys)) → w.grownBy w' v.ownBlock → (Value.ownBlock (.slice A' (n + m) c') = v.ownBlock ∨ Value.ownBlock (.slice A' (n + m) c') = some w.heap.size) → K (a.put o.dst (.slice A' (n + m) c')) w') :
    if Region.wanted o (yielded ops a.tmps) = true then Oper.wp Try.prog o a w K Q else E := by
  have hw : Region.wanted o (yielded ops a.tmps) = true := by simp [Region.wanted, hgd]
  rw [if_pos hw]
  exact wp_append_at T s x ho hs hown hx hr hb hB h

/-- The row of one element that append lays first. -/
theorem one_at {w : World} {g : Nat} {e : TypeId} {s : ByteArray} {n : Int} {fr : Nat × Nat} (h : w.heap[g]? = some (.cells #[.string s, .int .i64 n] e fr)) : VecAt w (g + 1) (some ⟨g, 0, none⟩) 1 [(s, n)] :=
  ⟨rfl, fun _ => ⟨_, _, rfl, by omega, fun k hk => by
    obtain rfl : k = 0 := by omega
    exact ⟨by have := cell_of_row w g 0 _ _ _ h; simpa using this, by have := cell_of_row w g 1 _ _ _ h; simpa using this⟩⟩⟩

/-- Where a row lies behind a call: nowhere, or in a block from B on. -/
theorem grown_of_below {w w' : World} (h : Below w.heap.size w w') (row : Option Nat) : w.grownBy w' row := ⟨h.os, h.tape, h.output, h.size, fun k hk _ => h.block k hk⟩
theorem grown_below {w w' : World} {B : Nat} {row : Option Nat} (hg : w.grownBy w' row) (hB : B ≤ w.heap.size) (hr : ∀ g, row = some g → B ≤ g) : Below B w w' :=
  ⟨hg.os, hg.tape, hg.output, hg.size, fun k hk => hg.block k (by omega) (fun e => by have := hr _ e.symm; omega)⟩
theorem own_nil (w : World) (B : Nat) (e : TypeId) : w.ownsRow B e 2 (.slice none 0 0) 0 (atCells []) := ⟨rfl, .inl ⟨rfl, rfl⟩⟩
/-- The row stays its own, whatever turned but it. -/
theorem own_grown {w w' : World} {B : Nat} {e : TypeId} {v : Value} {n : Nat} {xs : List Value} (h : w.ownsRow B e 2 v n xs) {row : Option Nat} (hg : w.grownBy w' row) (hne : row = none ∨ v.ownBlock ≠ row) : w'.ownsRow B e 2 v n xs :=
  h.kept (row := row) hg (by
    rcases hne with rfl | hne
    · cases hv : v.ownBlock <;> simp
    · exact .inr hne)
theorem own_below {w w' : World} {B : Nat} {e : TypeId} {v : Value} {n : Nat} {xs : List Value} (h : w.ownsRow B e 2 v n xs) (hb : Below w.heap.size w w') : w'.ownsRow B e 2 v n xs :=
  own_grown h (grown_of_below hb none) (.inl rfl)
end Go.Proofs.Ytbbcifcdimfdgaa
