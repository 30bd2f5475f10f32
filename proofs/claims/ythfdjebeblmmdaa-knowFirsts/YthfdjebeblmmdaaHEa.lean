/- Rows of a Know: how they lie. -/
import Derived.Test.YthfdjebeblmmdaaHK1
import Derived.Test.YthfdjebeblmmdaaHK3
namespace Go.Proofs.Ythfdjebeblmmdaa
open Go.RowKit

/-- A Row: its id, its Upto, and where its Extra lies. -/
structure Hd where
  id : ByteArray
  u : Int
  A : Option Addr
  c : Nat
  v : List Int
def cellsH (r : Hd) : List Value := [.string r.id, .int .i64 r.u, .slice r.A r.v.length r.c]
def zeroH : Value := .agg #[.string ⟨#[]⟩, .int .i64 0, .slice none 0 0]
theorem cellsH_one : ∀ x, ∀ u ∈ cellsH x, u.oneCell' = true := by
  intro x u hu
  simp only [cellsH, List.mem_cons, List.not_mem_nil, or_false] at hu
  rcases hu with rfl | rfl | rfl <;> rfl
theorem rowM : RowTy cellsH 3 48 zeroH 31 77 := ⟨Try.underlying31, by kernel_rfl, rfl, by omega, by omega, fun _ => rfl, cellsH_one⟩
theorem rowN : RowTy cellsH 3 48 zeroH 22 27 := ⟨Try.underlying22, by kernel_rfl, rfl, by omega, by omega, fun _ => rfl, cellsH_one⟩

/-- What a Know says: of each id its Vec. -/
abbrev Mat := List (ByteArray × (Int × List Int))
def absH (rs : List Hd) : Mat := rs.map fun r => (r.id, (r.u, r.v))
theorem absH_len (rs : List Hd) : (absH rs).length = rs.length := by simp [absH]
theorem absH_append (rs ss : List Hd) : absH (rs ++ ss) = absH rs ++ absH ss := by simp [absH]
/-- The Row's Extra is there. -/
structure Fine (w : World) (B : Nat) (r : Hd) : Prop where
  vec : Sp.IntsAt w B r.A r.v.length r.v
  cap : r.v.length ≤ r.c
theorem Fine.keep {w w' : World} {B : Nat} {r : Hd} (h : Fine w B r) (hb : Below B w w') : Fine w' B r := ⟨h.vec.keep hb, h.cap⟩
theorem Fine.more {w : World} {B B' : Nat} {r : Hd} (h : Fine w B r) (hB : B ≤ B') : Fine w B' r := ⟨h.vec.more hB, h.cap⟩
/-- The slice holds the Know m, in blocks below B. -/
def MatAt (w : World) (B : Nat) (A : Option Addr) (n : Nat) (m : Mat) : Prop := ∃ rs, absH rs = m ∧ RowAt cellsH 3 w B A n rs ∧ ∀ r ∈ rs, Fine w B r
theorem MatAt.len {w : World} {B : Nat} {A : Option Addr} {n : Nat} {m : Mat} (h : MatAt w B A n m) : m.length = n := by
  obtain ⟨rs, rfl, hr, _⟩ := h
  rw [absH_len]; exact hr.1
theorem MatAt.nil (w : World) (B : Nat) (A : Option Addr) : MatAt w B A 0 [] := ⟨[], rfl, RowAt.nil, by simp⟩
theorem MatAt.keep {w w' : World} {B : Nat} {A : Option Addr} {n : Nat} {m : Mat} (h : MatAt w B A n m) (hb : Below B w w') : MatAt w' B A n m := by
  obtain ⟨rs, e, hr, hf⟩ := h
  exact ⟨rs, e, hr.keep hb, fun r hx => (hf r hx).keep hb⟩
theorem MatAt.more {w : World} {B B' : Nat} {A : Option Addr} {n : Nat} {m : Mat} (h : MatAt w B A n m) (hB : B ≤ B') : MatAt w B' A n m := by
  obtain ⟨rs, e, hr, hf⟩ := h
  exact ⟨rs, e, hr.more hB, fun r hx => (hf r hx).more hB⟩
theorem MatAt.take {w : World} {B : Nat} {A : Option Addr} {n k : Nat} {m : Mat} (h : MatAt w B A n m) (hk : k ≤ n) : MatAt w B A k (m.take k) := by
  obtain ⟨rs, rfl, hr, hf⟩ := h
  exact ⟨rs.take k, by simp [absH], hr.take hk, fun r hx => hf r (List.mem_of_mem_take hx)⟩
/-- One of its Rows. -/
theorem MatAt.get {w wr : World} {B : Nat} {A : Option Addr} {n : Nat} {m : Mat} (h : MatAt w B A n m) (hb : Below B w wr) {k : Nat} (hk : k < n) :
    ∃ blk off r, A = some ⟨blk, off, none⟩ ∧ blk < B ∧ m[k]? = some (r.id, (r.u, r.v)) ∧ wr.cell? ⟨blk, off + k * 3, none⟩ = some (.string r.id) ∧ wr.cell? ⟨blk, off + k * 3 + 1, none⟩ = some (.int .i64 r.u) ∧ wr.cell? ⟨blk, off + k * 3 + 2, none⟩ = some (.slice r.A r.v.length r.c) ∧ Fine wr B r := by
  obtain ⟨rs, rfl, hr, hf⟩ := h
  obtain ⟨b, off, e, hlt, z, hz, hc⟩ := (hr.keep hb).get hk
  refine ⟨b, off, z, e, hlt, ?_, hc 0 _ rfl, hc 1 _ rfl, hc 2 _ rfl, (hf z (List.mem_of_getElem? hz)).keep hb⟩
  simp [absH, hz]
/-- The first is off. -/
theorem MatAt.tail {w : World} {B blk off n : Nat} {m : Mat} (h : MatAt w B (some ⟨blk, off, none⟩) (n + 1) m) : MatAt w B (some ⟨blk, off + 3, none⟩) n (m.drop 1) := by
  obtain ⟨rs, rfl, hr, hf⟩ := h
  refine ⟨rs.drop 1, by simp [absH], ⟨by simp [hr.1], fun hn => ?_⟩, fun r hx => hf r (List.mem_of_mem_drop hx)⟩
  obtain ⟨b, o, e, hlt, hc⟩ := hr.2 (by omega)
  injection e with e
  injection e with e1 e2
  subst e1 e2
  refine ⟨_, _, rfl, hlt, fun k hk j u hu => ?_⟩
  have hk' : k + 1 < rs.length := by simp at hk; omega
  have := hc (k + 1) hk' j u (by simpa [Nat.add_comm] using hu)
  rwa [show off + (k + 1) * 3 + j = off + 3 + k * 3 + j by omega] at this

/-- The Row's Extra lies not in that block. -/
def Apart (r : Hd) (g : Option Nat) : Prop := 0 < r.v.length → ∀ ad, r.A = some ad → g ≠ some ad.block
/-- Rows of the call's own. -/
structure OwnsH (w : World) (B : Nat) (e : TypeId) (A : Option Addr) (n c : Nat) (rs : List Hd) : Prop where
  own : w.ownsRow B e 3 (.slice A n c) n (rowCells cellsH rs)
  fine : ∀ r ∈ rs, Fine w w.heap.size r
  apart : ∀ r ∈ rs, Apart r (Value.ownBlock (.slice A n c))
/-- A Know of the call's own. -/
def OwnsM (w : World) (B : Nat) (e : TypeId) (A : Option Addr) (n c : Nat) (m : Mat) : Prop := ∃ rs, absH rs = m ∧ OwnsH w B e A n c rs
theorem OwnsH.nil (w : World) (B : Nat) (e : TypeId) : OwnsH w B e none 0 0 [] := ⟨rown_nil _ _, by simp, by simp⟩
theorem OwnsM.nil (w : World) (B : Nat) (e : TypeId) : OwnsM w B e none 0 0 [] := ⟨[], rfl, OwnsH.nil w B e⟩
theorem OwnsH.below {w w' : World} {B : Nat} {e : TypeId} {A : Option Addr} {n c : Nat} {rs : List Hd} (h : OwnsH w B e A n c rs) (hb : Below w.heap.size w w') : OwnsH w' B e A n c rs :=
  ⟨rown_below h.own hb, fun r hr => ((h.fine r hr).keep hb).more hb.size, h.apart⟩
theorem OwnsM.below {w w' : World} {B : Nat} {e : TypeId} {A : Option Addr} {n c : Nat} {m : Mat} (h : OwnsM w B e A n c m) (hb : Below w.heap.size w w') : OwnsM w' B e A n c m := by
  obtain ⟨rs, e, h⟩ := h; exact ⟨rs, e, h.below hb⟩
theorem OwnsM.base {w : World} {B B' : Nat} {e : TypeId} {A : Option Addr} {n c : Nat} {m : Mat} (h : OwnsM w B e A n c m) (hB : B' ≤ B) : OwnsM w B' e A n c m := by
  obtain ⟨rs, e, h⟩ := h; exact ⟨rs, e, ⟨rown_base h.own hB, h.fine, h.apart⟩⟩
theorem OwnsH.len {w : World} {B : Nat} {e : TypeId} {A : Option Addr} {n c : Nat} {rs : List Hd} (h : OwnsH w B e A n c rs) : rs.length = n := by
  have := h.own.1
  rw [rowCells_length rowM.len] at this
  omega
theorem OwnsM.len {w : World} {B : Nat} {e : TypeId} {A : Option Addr} {n c : Nat} {m : Mat} (h : OwnsM w B e A n c m) : m.length = n := by
  obtain ⟨rs, rfl, h⟩ := h; rw [absH_len]; exact h.len
theorem OwnsM.cap {w : World} {B : Nat} {e : TypeId} {A : Option Addr} {n c : Nat} {m : Mat} (h : OwnsM w B e A n c m) : n ≤ c := by
  obtain ⟨rs, rfl, h⟩ := h; exact rown_cap h.own
theorem OwnsH.row {w : World} {B : Nat} {e : TypeId} {A : Option Addr} {n c : Nat} {rs : List Hd} (h : OwnsH w B e A n c rs) : RowAt cellsH 3 w w.heap.size A n rs := by
  refine ⟨h.len, fun hn => ?_⟩
  obtain ⟨g, cap, hv, _, hlt⟩ := h.own.form hn
  injection hv with hA
  subst hA
  refine ⟨g, 0, rfl, hlt, fun k hk j u hu => ?_⟩
  have hj : j < 3 := by have := (List.getElem?_eq_some_iff.mp hu).1; simpa [cellsH] using this
  have h1 := rowCells_get (cf := cellsH) (d := 3) (fun _ => rfl) rs k hk j hj
  have h2 := h.own.cells (g := g) rfl (k * 3 + j) u (h1.trans hu)
  rw [radd] at h2
  rw [show 0 + k * 3 + j = 0 + (k * 3 + j) by omega]
  exact h2
theorem OwnsM.mat {w : World} {B : Nat} {e : TypeId} {A : Option Addr} {n c : Nat} {m : Mat} (h : OwnsM w B e A n c m) : MatAt w w.heap.size A n m := by
  obtain ⟨rs, e, h⟩ := h; exact ⟨rs, e, h.row, h.fine⟩
theorem ints_far {w w' : World} {B : Nat} {A : Option Addr} {n : Nat} {zs : List Int} (h : Sp.IntsAt w B A n zs) (hk : ∀ ad o, 0 < n → A = some ad → w'.cell? ⟨ad.block, o, none⟩ = w.cell? ⟨ad.block, o, none⟩) : Sp.IntsAt w' B A n zs :=
  ⟨h.1, fun hn => by
    obtain ⟨b, off, e, hlt, hc⟩ := h.2 hn
    have h2 := fun o => hk _ o hn e
    exact ⟨b, off, e, hlt, fun k hk' => (h2 _).trans (hc k hk')⟩⟩
/-- Under a change of one block alone a Row's Extra that lies in another one stays. -/
theorem Fine.grown {w w' : World} {r : Hd} {row : Option Nat} (h : Fine w w.heap.size r) (hg : w.grownBy w' row) (ha : Apart r row) : Fine w' w'.heap.size r :=
  ⟨(ints_far h.vec fun ad o hn e => by
      have hlt : ad.block < w.heap.size := by
        obtain ⟨b, off, e2, hlt, _⟩ := h.vec.2 hn
        rw [e] at e2; injection e2 with e2; subst e2; exact hlt
      exact World.cell?_of_block (a := ⟨ad.block, o, none⟩) (hg.block ad.block hlt (fun e3 => ha hn ad e e3.symm))).more hg.size, h.cap⟩
/-- One more Row behind. -/
theorem OwnsH.snoc {w w3 : World} {B : Nat} {e : TypeId} {A A3 : Option Addr} {n c c3 : Nat} {rs : List Hd} {r : Hd} (h : OwnsH w B e A n c rs) (hr : Fine w w.heap.size r) (ha : Apart r (Value.ownBlock (.slice A n c)))
    (hown : w3.ownsRow B e 3 (.slice A3 (n + 1) c3) (n + 1) (rowCells cellsH (rs ++ [r]))) (hg : w.grownBy w3 (Value.ownBlock (.slice A n c))) (hat : Value.ownBlock (.slice A3 (n + 1) c3) = Value.ownBlock (.slice A n c) ∨ Value.ownBlock (.slice A3 (n + 1) c3) = some w.heap.size) : OwnsH w3 B e A3 (n + 1) c3 (rs ++ [r]) := by
  have hall : ∀ x ∈ rs ++ [r], Fine w w.heap.size x ∧ Apart x (Value.ownBlock (.slice A n c)) := fun x hx => by
    rcases List.mem_append.mp hx with hx | hx
    · exact ⟨h.fine x hx, h.apart x hx⟩
    · simp at hx; subst hx; exact ⟨hr, ha⟩
  refine ⟨hown, fun x hx => (hall x hx).1.grown hg (hall x hx).2, fun x hx => ?_⟩
  rcases hat with e1 | e1
  · rw [e1]; exact (hall x hx).2
  · rw [e1]
    intro hn ad e2 e3
    obtain ⟨b, off, e4, hlt, _⟩ := (hall x hx).1.vec.2 hn
    rw [e2] at e4; injection e4 with e4; subst e4
    injection e3 with e3
    simp at e3 hlt
    omega
/-- A Know of the call's own is answered. -/
def OwnMat (e : TypeId) (m : Mat) (w : World) (en : Ending) (w' : World) : Prop := ∃ A c, en = .returned (.slice A m.length c) ∧ OwnsM w' w.heap.size e A m.length c m ∧ Below w.heap.size w w'
theorem takeM {m : Mat} {k : Nat} {x : ByteArray × (Int × List Int)} (h : m[k]? = some x) : m.take (k + 1) = m.take k ++ [x] := by
  rw [List.take_add_one, h]
  rfl
end Go.Proofs.Ythfdjebeblmmdaa
