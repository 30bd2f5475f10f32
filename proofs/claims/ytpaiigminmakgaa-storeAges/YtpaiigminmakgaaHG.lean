/- Texts Ea Eb Ec Ed Ua Ee Ef En Eg Qp Qs Qt Eh Ei El, one behind the other. -/
import Derived.Test.YtpaiigminmakgaaHE
import Derived.Test.YtpaiigminmakgaaHC
import Derived.Test.YtpaiigminmakgaaHF
import Derived.Lib.SliceRun
import Derived.Deep.MidRow
import Derived.Deep.CutBlock
import Derived.Deep.DeepCutAuto
import Derived.Deep.RegionHeld3
import Derived.Lib.AppendZerosOnto
/- Rows of a Know: how they lie. -/
namespace Go.Proofs.Ytpaiigminmakgaa
open Go.RowKit

/-- A Row: its id, its Upto, and where its Extra lies. -/
structure Hd where
  id : ByteArray
  u : Int
  A : Option Addr
  c : Nat
  v : List Int
def cellsH (r : Hd) : List Value := [.string r.id, .int .i64 r.u, .slice r.A r.v.length r.c]
def zeroH : Value := .agg #[.string ⟨#[]⟩, .int .i64 0, .slice none 0 0]
theorem cellsH_one : ∀ x, ∀ u ∈ cellsH x, u.oneCell' = true := by
  intro x u hu
  simp only [cellsH, List.mem_cons, List.not_mem_nil, or_false] at hu
  rcases hu with rfl | rfl | rfl <;> rfl
theorem rowM : RowTy cellsH 3 48 zeroH 64 98 := ⟨Try.underlying64, by kernel_rfl, rfl, by omega, by omega, fun _ => rfl, cellsH_one⟩
theorem rowN : RowTy cellsH 3 48 zeroH 59 88 := ⟨Try.underlying59, by kernel_rfl, rfl, by omega, by omega, fun _ => rfl, cellsH_one⟩

/-- What a Know says: of each id its Vec. -/
abbrev Mat := List (ByteArray × (Int × List Int))
def absH (rs : List Hd) : Mat := rs.map fun r => (r.id, (r.u, r.v))
theorem absH_len (rs : List Hd) : (absH rs).length = rs.length := by simp [absH]
theorem absH_append (rs ss : List Hd) : absH (rs ++ ss) = absH rs ++ absH ss := by simp [absH]
/-- The Row's Extra is there. -/
structure Fine (w : World) (B : Nat) (r : Hd) : Prop where
  vec : Sp.IntsAt w B r.A r.v.length r.v
  cap : r.v.length ≤ r.c
theorem Fine.keep {w w' : World} {B : Nat} {r : Hd} (h : Fine w B r) (hb : Below B w w') : Fine w' B r := ⟨h.vec.keep hb, h.cap⟩
theorem Fine.more {w : World} {B B' : Nat} {r : Hd} (h : Fine w B r) (hB : B ≤ B') : Fine w B' r := ⟨h.vec.more hB, h.cap⟩
/-- The slice holds the Know m, in blocks below B. -/
def MatAt (w : World) (B : Nat) (A : Option Addr) (n : Nat) (m : Mat) : Prop := ∃ rs, absH rs = m ∧ RowAt cellsH 3 w B A n rs ∧ ∀ r ∈ rs, Fine w B r
theorem MatAt.len {w : World} {B : Nat} {A : Option Addr} {n : Nat} {m : Mat} (h : MatAt w B A n m) : m.length = n := by
  obtain ⟨rs, rfl, hr, _⟩ := h
  rw [absH_len]; exact hr.1
theorem MatAt.nil (w : World) (B : Nat) (A : Option Addr) : MatAt w B A 0 [] := ⟨[], rfl, RowAt.nil, by simp⟩
theorem MatAt.keep {w w' : World} {B : Nat} {A : Option Addr} {n : Nat} {m : Mat} (h : MatAt w B A n m) (hb : Below B w w') : MatAt w' B A n m := by
  obtain ⟨rs, e, hr, hf⟩ := h
  exact ⟨rs, e, hr.keep hb, fun r hx => (hf r hx).keep hb⟩
theorem MatAt.more {w : World} {B B' : Nat} {A : Option Addr} {n : Nat} {m : Mat} (h : MatAt w B A n m) (hB : B ≤ B') : MatAt w B' A n m := by
  obtain ⟨rs, e, hr, hf⟩ := h
  exact ⟨rs, e, hr.more hB, fun r hx => (hf r hx).more hB⟩
theorem MatAt.take {w : World} {B : Nat} {A : Option Addr} {n k : Nat} {m : Mat} (h : MatAt w B A n m) (hk : k ≤ n) : MatAt w B A k (m.take k) := by
  obtain ⟨rs, rfl, hr, hf⟩ := h
  exact ⟨rs.take k, by simp [absH], hr.take hk, fun r hx => hf r (List.mem_of_mem_take hx)⟩
/-- One of its Rows. -/
theorem MatAt.get {w wr : World} {B : Nat} {A : Option Addr} {n : Nat} {m : Mat} (h : MatAt w B A n m) (hb : Below B w wr) {k : Nat} (hk : k < n) :
    ∃ blk off r, A = some ⟨blk, off, none⟩ ∧ blk < B ∧ m[k]? = some (r.id, (r.u, r.v)) ∧ wr.cell? ⟨blk, off + k * 3, none⟩ = some (.string r.id) ∧ wr.cell? ⟨blk, off + k * 3 + 1, none⟩ = some (.int .i64 r.u) ∧ wr.cell? ⟨blk, off + k * 3 + 2, none⟩ = some (.slice r.A r.v.length r.c) ∧ Fine wr B r := by
  obtain ⟨rs, rfl, hr, hf⟩ := h
  obtain ⟨b, off, e, hlt, z, hz, hc⟩ := (hr.keep hb).get hk
  refine ⟨b, off, z, e, hlt, ?_, hc 0 _ rfl, hc 1 _ rfl, hc 2 _ rfl, (hf z (List.mem_of_getElem? hz)).keep hb⟩
  simp [absH, hz]
/-- The first is off. -/
theorem MatAt.tail {w : World} {B blk off n : Nat} {m : Mat} (h : MatAt w B (some ⟨blk, off, none⟩) (n + 1) m) : MatAt w B (some ⟨blk, off + 3, none⟩) n (m.drop 1) := by
  obtain ⟨rs, rfl, hr, hf⟩ := h
  refine ⟨rs.drop 1, by simp [absH], ⟨by simp [hr.1], fun hn => ?_⟩, fun r hx => hf r (List.mem_of_mem_drop hx)⟩
  obtain ⟨b, o, e, hlt, hc⟩ := hr.2 (by omega)
  injection e with e
  injection e with e1 e2
  subst e1 e2
  refine ⟨_, _, rfl, hlt, fun k hk j u hu => ?_⟩
  have hk' : k + 1 < rs.length := by simp at hk; omega
  have := hc (k + 1) hk' j u (by simpa [Nat.add_comm] using hu)
  rwa [show off + (k + 1) * 3 + j = off + 3 + k * 3 + j by omega] at this

/-- The Row's Extra lies not in that block. -/
def Apart (r : Hd) (g : Option Nat) : Prop := 0 < r.v.length → ∀ ad, r.A = some ad → g ≠ some ad.block
/-- Rows of the call's own. -/
structure OwnsH (w : World) (B : Nat) (e : TypeId) (A : Option Addr) (n c : Nat) (rs : List Hd) : Prop where
  own : w.ownsRow B e 3 (.slice A n c) n (rowCells cellsH rs)
  fine : ∀ r ∈ rs, Fine w w.heap.size r
  apart : ∀ r ∈ rs, Apart r (Value.ownBlock (.slice A n c))
/-- A Know of the call's own. -/
def OwnsM (w : World) (B : Nat) (e : TypeId) (A : Option Addr) (n c : Nat) (m : Mat) : Prop := ∃ rs, absH rs = m ∧ OwnsH w B e A n c rs
theorem OwnsH.nil (w : World) (B : Nat) (e : TypeId) : OwnsH w B e none 0 0 [] := ⟨rown_nil _ _, by simp, by simp⟩
theorem OwnsM.nil (w : World) (B : Nat) (e : TypeId) : OwnsM w B e none 0 0 [] := ⟨[], rfl, OwnsH.nil w B e⟩
theorem OwnsH.below {w w' : World} {B : Nat} {e : TypeId} {A : Option Addr} {n c : Nat} {rs : List Hd} (h : OwnsH w B e A n c rs) (hb : Below w.heap.size w w') : OwnsH w' B e A n c rs :=
  ⟨rown_below h.own hb, fun r hr => ((h.fine r hr).keep hb).more hb.size, h.apart⟩
theorem OwnsM.below {w w' : World} {B : Nat} {e : TypeId} {A : Option Addr} {n c : Nat} {m : Mat} (h : OwnsM w B e A n c m) (hb : Below w.heap.size w w') : OwnsM w' B e A n c m := by
  obtain ⟨rs, e, h⟩ := h; exact ⟨rs, e, h.below hb⟩
theorem OwnsM.base {w : World} {B B' : Nat} {e : TypeId} {A : Option Addr} {n c : Nat} {m : Mat} (h : OwnsM w B e A n c m) (hB : B' ≤ B) : OwnsM w B' e A n c m := by
  obtain ⟨rs, e, h⟩ := h; exact ⟨rs, e, ⟨rown_base h.own hB, h.fine, h.apart⟩⟩
theorem OwnsH.len {w : World} {B : Nat} {e : TypeId} {A : Option Addr} {n c : Nat} {rs : List Hd} (h : OwnsH w B e A n c rs) : rs.length = n := by
  have := h.own.1
  rw [rowCells_length rowM.len] at this
  omega
theorem OwnsM.len {w : World} {B : Nat} {e : TypeId} {A : Option Addr} {n c : Nat} {m : Mat} (h : OwnsM w B e A n c m) : m.length = n := by
  obtain ⟨rs, rfl, h⟩ := h; rw [absH_len]; exact h.len
theorem OwnsM.cap {w : World} {B : Nat} {e : TypeId} {A : Option Addr} {n c : Nat} {m : Mat} (h : OwnsM w B e A n c m) : n ≤ c := by
  obtain ⟨rs, rfl, h⟩ := h; exact rown_cap h.own
theorem OwnsH.row {w : World} {B : Nat} {e : TypeId} {A : Option Addr} {n c : Nat} {rs : List Hd} (h : OwnsH w B e A n c rs) : RowAt cellsH 3 w w.heap.size A n rs := by
  refine ⟨h.len, fun hn => ?_⟩
  obtain ⟨g, cap, hv, _, hlt⟩ := h.own.form hn
  injection hv with hA
  subst hA
  refine ⟨g, 0, rfl, hlt, fun k hk j u hu => ?_⟩
  have hj : j < 3 := by have := (List.getElem?_eq_some_iff.mp hu).1; simpa [cellsH] using this
  have h1 := rowCells_get (cf := cellsH) (d := 3) (fun _ => rfl) rs k hk j hj
  have h2 := h.own.cells (g := g) rfl (k * 3 + j) u (h1.trans hu)
  rw [radd] at h2
  rw [show 0 + k * 3 + j = 0 + (k * 3 + j) by omega]
  exact h2
theorem OwnsM.mat {w : World} {B : Nat} {e : TypeId} {A : Option Addr} {n c : Nat} {m : Mat} (h : OwnsM w B e A n c m) : MatAt w w.heap.size A n m := by
  obtain ⟨rs, e, h⟩ := h; exact ⟨rs, e, h.row, h.fine⟩
theorem ints_far {w w' : World} {B : Nat} {A : Option Addr} {n : Nat} {zs : List Int} (h : Sp.IntsAt w B A n zs) (hk : ∀ ad o, 0 < n → A = some ad → w'.cell? ⟨ad.block, o, none⟩ = w.cell? ⟨ad.block, o, none⟩) : Sp.IntsAt w' B A n zs :=
  ⟨h.1, fun hn => by
    obtain ⟨b, off, e, hlt, hc⟩ := h.2 hn
    have h2 := fun o => hk _ o hn e
    exact ⟨b, off, e, hlt, fun k hk' => (h2 _).trans (hc k hk')⟩⟩
/-- Under a change of one block alone a Row's Extra that lies in another one stays. -/
theorem Fine.grown {w w' : World} {r : Hd} {row : Option Nat} (h : Fine w w.heap.size r) (hg : w.grownBy w' row) (ha : Apart r row) : Fine w' w'.heap.size r :=
  ⟨(ints_far h.vec fun ad o hn e => by
      have hlt : ad.block < w.heap.size := by
        obtain ⟨b, off, e2, hlt, _⟩ := h.vec.2 hn
        rw [e] at e2; injection e2 with e2; subst e2; exact hlt
      exact World.cell?_of_block (a := ⟨ad.block, o, none⟩) (hg.block ad.block hlt (fun e3 => ha hn ad e e3.symm))).more hg.size, h.cap⟩
/-- One more Row behind. -/
theorem OwnsH.snoc {w w3 : World} {B : Nat} {e : TypeId} {A A3 : Option Addr} {n c c3 : Nat} {rs : List Hd} {r : Hd} (h : OwnsH w B e A n c rs) (hr : Fine w w.heap.size r) (ha : Apart r (Value.ownBlock (.slice A n c)))
    (hown : w3.ownsRow B e 3 (.slice A3 (n + 1) c3) (n + 1) (rowCells cellsH (rs ++ [r]))) (hg : w.grownBy w3 (Value.ownBlock (.slice A n c))) (hat : Value.ownBlock (.slice A3 (n + 1) c3) = Value.ownBlock (.slice A n c) ∨ Value.ownBlock (.slice A3 (n + 1) c3) = some w.heap.size) : OwnsH w3 B e A3 (n + 1) c3 (rs ++ [r]) := by
  have hall : ∀ x ∈ rs ++ [r], Fine w w.heap.size x ∧ Apart x (Value.ownBlock (.slice A n c)) := fun x hx => by
    rcases List.mem_append.mp hx with hx | hx
    · exact ⟨h.fine x hx, h.apart x hx⟩
    · simp at hx; subst hx; exact ⟨hr, ha⟩
  refine ⟨hown, fun x hx => (hall x hx).1.grown hg (hall x hx).2, fun x hx => ?_⟩
  rcases hat with e1 | e1
  · rw [e1]; exact (hall x hx).2
  · rw [e1]
    intro hn ad e2 e3
    obtain ⟨b, off, e4, hlt, _⟩ := (hall x hx).1.vec.2 hn
    rw [e2] at e4; injection e4 with e4; subst e4
    injection e3 with e3
    simp at e3 hlt
    omega
/-- A Know of the call's own is answered. -/
def OwnMat (e : TypeId) (m : Mat) (w : World) (en : Ending) (w' : World) : Prop := ∃ A c, en = .returned (.slice A m.length c) ∧ OwnsM w' w.heap.size e A m.length c m ∧ Below w.heap.size w w'
theorem takeM {m : Mat} {k : Nat} {x : ByteArray × (Int × List Int)} (h : m[k]? = some x) : m.take (k + 1) = m.take k ++ [x] := by
  rw [List.take_add_one, h]
  rfl
end Go.Proofs.Ytpaiigminmakgaa

/- know.clone; the law's To and From; know.push. -/
namespace Go.Proofs.Ytpaiigminmakgaa
open Go.RowKit

theorem below_viaE {B : Nat} {a w W w1 : World} (h : Below B a w) (hb : Below W.heap.size W w1) (hB : B ≤ w.heap.size) (hs : W.os = w.os ∧ W.tape = w.tape ∧ W.output = w.output ∧ W.heap = w.heap) : Below B a w1 := by
  obtain ⟨h1, h2, h3, h4⟩ := hs
  exact ⟨hb.os.trans (h1.trans h.os), hb.tape.trans (h2.trans h.tape), hb.output.trans (h3.trans h.output), Nat.le_trans h.size (by rw [← h4]; exact hb.size), fun k hk => (hb.block k (by rw [h4]; omega)).trans (by rw [h4]; exact h.block k hk)⟩
/-- A Span of the call's own is answered. -/
def OwnS (s : Int × List Int) (w : World) (e : Ending) (w' : World) : Prop :=
  ∃ A c, e = .returned (.agg #[.int .i64 s.1, .slice A s.2.length c]) ∧ s.2.length ≤ c ∧ w'.ownsRow w.heap.size 3 1 (.slice A s.2.length c) s.2.length (s.2.map (.int .i64)) ∧ Below w.heap.size w w'
theorem ownS_of {s : Int × List Int} {w w' : World} {e : Ending} (h : Sp.OwnSpan w.heap.size none s w e w') : OwnS s w e w' := by
  obtain ⟨A, c, rfl, ho, hg, _⟩ := h
  exact ⟨A, c, rfl, rown_cap ho, ho, ⟨hg.os, hg.tape, hg.output, hg.size, fun k hk => hg.block k hk (by simp)⟩⟩
/-- A Span that may be, as far as it counts here. -/
structure OkS (s : Int × List Int) : Prop where
  ok : Sp.Ok s
  hi : s.1 ≤ 1048576
  len : s.2.length ≤ 100000
theorem clone_same {s : Int × List Int} (h : Sp.Ok s) (hb : s.1 ≤ 1048576) : Sp.unionF s (0, []) = s := by
  have h0 : Sp.Ok (0, []) := ⟨Int.le_refl _, List.Pairwise.nil, by simp⟩
  obtain ⟨a, b⟩ := Sp.union_ok h h0 hb (by simp)
  refine Sp.Ok.ext a h fun x => ?_
  rw [b x]
  constructor
  · rintro (h | h)
    · exact h
    · rcases h with h | h
      · simp at h; omega
      · simp at h
  · exact Or.inl
theorem toS_any (u : Int) (A : Option Addr) (n c : Nat) (zs : List Int) (B : Nat) (w : World) (hB : B ≤ w.heap.size) (hz : Sp.IntsAt w B A n zs) (hn : n ≤ 1073741824) :
    Calls Try.prog 53 #[.agg #[.int .i64 u, .slice A n c]] w (OwnS (u, zs) w) := (Sp.to_any u A n c zs B w hB hz hn).mono fun _ _ h => ownS_of h
theorem apart_new {w w1 : World} {B : Nat} {e e2 : TypeId} {d2 : Nat} {A : Option Addr} {n c : Nat} {rs : List Hd} {r : Hd} {xs : List Value} (h : OwnsH w B e A n c rs) (ho : w1.ownsRow w.heap.size e2 d2 (.slice r.A r.v.length r.c) r.v.length xs) : Apart r (Value.ownBlock (.slice A n c)) := fun _ ad e1 e2 => by
  have h1 := (h.own.lt ad.block e2).2
  have h2 := (ho.lt ad.block (by rw [e1]; rfl)).1
  omega
/-- A Know that is being made: k Rows are there. -/
def CopyM (e : TypeId) (w : World) (m : Mat) (k : Nat) (Av : Option Addr) (cv : Nat) (wr : World) : Prop := OwnsM wr w.heap.size e Av k cv (m.take k) ∧ Below w.heap.size w wr
set_option maxRecDepth 100000 in
set_option maxHeartbeats 4000000 in
theorem toM_any (A : Option Addr) (n c : Nat) (m : Mat) (B : Nat) (w : World) (hB : B ≤ w.heap.size) (hz : MatAt w B A n m) (hn : n ≤ 1000000) (hv : ∀ x ∈ m, x.2.2.length ≤ 1000000) :
    Calls Try.prog 29 #[.slice A n c] w (OwnMat 98 m w) := by
  have HL := Lib.hid hz.len
  have HZ := Lib.hid hz
  have HV := Lib.hid hv
  clear hz hv
  go_enter Try.func29, Try.ntmps29
  go_wp2
  go_loopw [3, 4] (fun v i wr => ∃ (k : Nat) (Av : Option Addr) (cv : Nat), k ≤ n ∧ i = .int .i64 k ∧ v = .slice Av k cv ∧ Hid (CopyM 98 w m k Av cv wr)) (fun _ i _ => n - (intOf i).toNat)
  case atStart => exact ⟨0, none, 0, by omega, rfl, rfl, OwnsM.nil _ _ _, Below.refl _ _⟩
  case round =>
    obtain ⟨k, Av, cv, hk, rfl, rfl, HC⟩ := hrel
    obtain ⟨⟨rs, habs, hown⟩, hbel⟩ := HC.out
    have HO := Lib.hid hown
    have HB := Lib.hid hbel
    have HAB := Lib.hid habs
    clear hown hbel HC habs
    by_cases hlt : k < n
    · obtain ⟨blk, off, r, rfl, hbB, hmk, e0, e1, e2, hf⟩ := HZ.out.get (HB.out.mono hB) hlt
      have HTS := Lib.hid (takeM hmk)
      have hi1 : (k : Int) < (n : Int) := by omega
      have hvl : r.v.length ≤ 1000000 := HV.out _ (List.mem_of_getElem? hmk)
      have hbl : blk < wr.heap.size := by have := HB.out.size; omega
      have HF := Lib.hid hf
      obtain ⟨id, u, Ar, cr, v⟩ := r
      simp only at e0 e1 e2 hvl HTS
      clear hmk hf
      go_upto_region 5 with fail
      refine wp_region_held_drew (S := fun w' => w'.cell? ⟨blk, off + k * 3, none⟩ = some (.string id) ∧ w'.cell? ⟨blk, off + k * 3 + 1, none⟩ = some (.int .i64 u) ∧ w'.cell? ⟨blk, off + k * 3 + 2, none⟩ = some (.slice Ar v.length cr)) (by kernel_rfl) ⟨e0, e1, e2⟩ (fun hHeld => ?_)
      refine wpAnyH_take (i := 0) (oi := { dst := some 11, op := Go.Op.move (Go.Operand.tmp 3), type := 64, pos := "law.go:20", after := #[], guard := none }) (v := ?_) rfl (by kernel_rfl) (by kernel_rfl) (by kernel_rfl) (fun _ _ _ h => h) (Or.inl ⟨rfl, ?_⟩) (by assumption) ?_
      rotate_left
      · intro wz hSw; (try dsimp only at hSw); go_simp; try (with_reducible rfl)
      try simp only [Act.put, List.setIfInBounds_toArray, List.set_cons_zero, List.set_cons_succ]
      refine wpAnyH_take (i := 1) (oi := { dst := some 12, op := Go.Op.move (Go.Operand.tmp 0), type := 59, pos := "law.go:20", after := #[], guard := none }) (v := ?_) rfl (by kernel_rfl) (by kernel_rfl) (by kernel_rfl) (fun _ _ _ h => h) (Or.inl ⟨rfl, ?_⟩) (by assumption) ?_
      rotate_left
      · intro wz hSw; (try dsimp only at hSw); go_simp; try (with_reducible rfl)
      try simp only [Act.put, List.setIfInBounds_toArray, List.set_cons_zero, List.set_cons_succ]
      refine wpAnyH_take (i := 2) (oi := { dst := some 13, op := Go.Op.move (Go.Operand.tmp 4), type := 3, pos := "law.go:20", after := #[], guard := none }) (v := ?_) rfl (by kernel_rfl) (by kernel_rfl) (by kernel_rfl) (fun _ _ _ h => h) (Or.inl ⟨rfl, ?_⟩) (by assumption) ?_
      rotate_left
      · intro wz hSw; (try dsimp only at hSw); go_simp; try (with_reducible rfl)
      try simp only [Act.put, List.setIfInBounds_toArray, List.set_cons_zero, List.set_cons_succ]
      refine wpAnyH_take (i := 3) (oi := { dst := some 14, op := Go.Op.indexAddr 59 (Go.Operand.tmp 12) (Go.Operand.tmp 13), type := 0, pos := "law.go:20", after := #[{ on := 1, ground := Go.Ground.data }, { on := 2, ground := Go.Ground.data }], guard := none }) (v := ?_) rfl (by kernel_rfl) (by kernel_rfl) (by kernel_rfl) (fun _ _ _ h => h) (Or.inl ⟨rfl, ?_⟩) (by assumption) ?_
      rotate_left
      · intro wz hSw; (try dsimp only at hSw); go_simp; try (with_reducible rfl)
      try simp only [Act.put, List.setIfInBounds_toArray, List.set_cons_zero, List.set_cons_succ]
      refine wpAnyH_take (i := 4) (oi := { dst := some 15, op := Go.Op.fieldAddr 88 (Go.Operand.tmp 14) 0, type := 0, pos := "law.go:20", after := #[{ on := 3, ground := Go.Ground.data }], guard := none }) (v := ?_) rfl (by kernel_rfl) (by kernel_rfl) (by kernel_rfl) (fun _ _ _ h => h) (Or.inl ⟨rfl, ?_⟩) (by assumption) ?_
      rotate_left
      · intro wz hSw; (try dsimp only at hSw); go_simp; try (with_reducible rfl)
      try simp only [Act.put, List.setIfInBounds_toArray, List.set_cons_zero, List.set_cons_succ]
      refine wpAnyH_take (i := 5) (oi := { dst := some 16, op := Go.Op.load 9 (Go.Operand.tmp 15), type := 9, pos := "law.go:20", after := #[{ on := 4, ground := Go.Ground.data }], guard := none }) (v := ?_) rfl (by kernel_rfl) (by kernel_rfl) (by kernel_rfl) (fun _ _ _ h => h) (Or.inl ⟨rfl, ?_⟩) (by assumption) ?_
      rotate_left
      · intro wz hSw; (try dsimp only at hSw); go_simp; try (with_reducible rfl)
      try simp only [Act.put, List.setIfInBounds_toArray, List.set_cons_zero, List.set_cons_succ]
      refine wpAnyH_take (i := 6) (oi := { dst := some 17, op := Go.Op.move (Go.Operand.tmp 0), type := 59, pos := "law.go:20", after := #[], guard := none }) (v := ?_) rfl (by kernel_rfl) (by kernel_rfl) (by kernel_rfl) (fun _ _ _ h => h) (Or.inl ⟨rfl, ?_⟩) (by assumption) ?_
      rotate_left
      · intro wz hSw; (try dsimp only at hSw); go_simp; try (with_reducible rfl)
      try simp only [Act.put, List.setIfInBounds_toArray, List.set_cons_zero, List.set_cons_succ]
      refine wpAnyH_take (i := 7) (oi := { dst := some 18, op := Go.Op.move (Go.Operand.tmp 4), type := 3, pos := "law.go:20", after := #[], guard := none }) (v := ?_) rfl (by kernel_rfl) (by kernel_rfl) (by kernel_rfl) (fun _ _ _ h => h) (Or.inl ⟨rfl, ?_⟩) (by assumption) ?_
      rotate_left
      · intro wz hSw; (try dsimp only at hSw); go_simp; try (with_reducible rfl)
      try simp only [Act.put, List.setIfInBounds_toArray, List.set_cons_zero, List.set_cons_succ]
      refine wpAnyH_take (i := 8) (oi := { dst := some 19, op := Go.Op.indexAddr 59 (Go.Operand.tmp 17) (Go.Operand.tmp 18), type := 0, pos := "law.go:20", after := #[{ on := 6, ground := Go.Ground.data }, { on := 7, ground := Go.Ground.data }], guard := none }) (v := ?_) rfl (by kernel_rfl) (by kernel_rfl) (by kernel_rfl) (fun _ _ _ h => h) (Or.inl ⟨rfl, ?_⟩) (by assumption) ?_
      rotate_left
      · intro wz hSw; (try dsimp only at hSw); go_simp; try (with_reducible rfl)
      try simp only [Act.put, List.setIfInBounds_toArray, List.set_cons_zero, List.set_cons_succ]
      refine wpAnyH_take (i := 9) (oi := { dst := some 20, op := Go.Op.fieldAddr 88 (Go.Operand.tmp 19) 1, type := 0, pos := "law.go:20", after := #[{ on := 8, ground := Go.Ground.data }], guard := none }) (v := ?_) rfl (by kernel_rfl) (by kernel_rfl) (by kernel_rfl) (fun _ _ _ h => h) (Or.inl ⟨rfl, ?_⟩) (by assumption) ?_
      rotate_left
      · intro wz hSw; (try dsimp only at hSw); go_simp; try (with_reducible rfl)
      try simp only [Act.put, List.setIfInBounds_toArray, List.set_cons_zero, List.set_cons_succ]
      refine wpAnyH_take (i := 10) (oi := { dst := some 21, op := Go.Op.load 86 (Go.Operand.tmp 20), type := 86, pos := "law.go:20", after := #[{ on := 9, ground := Go.Ground.data }], guard := none }) (v := ?_) rfl (by kernel_rfl) (by kernel_rfl) (by kernel_rfl) (fun _ _ _ h => h) (Or.inl ⟨rfl, ?_⟩) (by assumption) ?_
      rotate_left
      · intro wz hSw; (try dsimp only at hSw); go_simp; try (with_reducible rfl)
      try simp only [Act.put, List.setIfInBounds_toArray, List.set_cons_zero, List.set_cons_succ]
      refine wpAnyH_ready (rs := [11]) (by kernel_rfl) (by simp) ?_
      refine (AllReadyH.cons (o := { dst := some 22, op := Go.Op.call { callee := Go.Callee.value (Go.Operand.func 53), args := #[Go.Operand.tmp 21], argTypes := #[86] }, type := 95, pos := "law.go:20", after := #[{ on := 10, ground := Go.Ground.data }], guard := none }) rfl (fun K hK => ?_) AllReadyH.nil)
      go_simp
      go_at_call 53
      refine (toS_any u Ar v.length cr v B _ (by have := HB.out.size; exact Nat.le_trans hB this) (by exact HF.out.vec) (by omega)).mono ?_
      rintro e u1 ⟨A1, c1, rfl, hc1, ho, hb⟩
      dsimp only at hc1 ho ⊢
      replace e0 := (hb.cell (p := ⟨blk, off + k * 3, none⟩) hbl).trans e0
      replace e1 := (hb.cell (p := ⟨blk, off + k * 3 + 1, none⟩) hbl).trans e1
      replace e2 := (hb.cell (p := ⟨blk, off + k * 3 + 2, none⟩) hbl).trans e2
      replace hbl := Nat.lt_of_lt_of_le hbl hb.size
      have HA1 : Hid (Apart ⟨id, u, A1, c1, v⟩ (Value.ownBlock (.slice Av k cv))) := apart_new (r := ⟨id, u, A1, c1, v⟩) HO.out (by exact ho)
      have HF1 : Hid (Fine u1 u1.heap.size ⟨id, u, A1, c1, v⟩) := ⟨Sp.own_ints ho, hc1⟩
      replace HO := Lib.hid (HO.out.below (below_viaE (Below.refl _ _) hb (Nat.le_refl _) ⟨rfl, rfl, rfl, rfl⟩))
      replace HB := Lib.hid (below_viaE HB.out hb HB.out.size ⟨rfl, rfl, rfl, rfl⟩)
      clear ho hb hc1
      refine hK.out _ _ ⟨e0, e1, e2⟩ (fun hHeld => ?_)
      clear hK K
      try simp only [Act.put, List.setIfInBounds_toArray, List.set_cons_zero, List.set_cons_succ]
      refine wpAnyH_take (i := 12) (oi := { dst := some 23, op := Go.Op.build 98 #[(0, Go.Operand.tmp 16), (1, Go.Operand.tmp 22)], type := 98, pos := "law.go:20", after := #[{ on := 5, ground := Go.Ground.data }, { on := 11, ground := Go.Ground.data }], guard := none }) (v := ?_) rfl (by kernel_rfl) (by kernel_rfl) (by kernel_rfl) (fun _ _ _ h => h) (Or.inl ⟨rfl, ?_⟩) (by assumption) ?_
      rotate_left
      · intro wz hSw; (try dsimp only at hSw); go_simp; try (with_reducible rfl)
      try simp only [Act.put, List.setIfInBounds_toArray, List.set_cons_zero, List.set_cons_succ]
      refine wpAnyH_ready (rs := [13]) (by kernel_rfl) (by simp) ?_
      refine (AllReadyH.cons (o := { dst := some 24, op := Go.Op.buildSlice 64 1 #[(0, Go.Operand.tmp 23)], type := 64, pos := "law.go:20", after := #[{ on := 12, ground := Go.Ground.data }], guard := none }) rfl (fun K hK => ?_) AllReadyH.nil)
      go_simp
      have hb1 : Below u1.heap.size u1 (u1.alloc (.cells #[.string id, .int .i64 u, .slice A1 v.length c1] 98)) := (Below.refl _ _).alloc (Nat.le_refl _) _
      replace e0 := (hb1.cell (p := ⟨blk, off + k * 3, none⟩) hbl).trans e0
      replace e1 := (hb1.cell (p := ⟨blk, off + k * 3 + 1, none⟩) hbl).trans e1
      replace e2 := (hb1.cell (p := ⟨blk, off + k * 3 + 2, none⟩) hbl).trans e2
      replace hbl := Nat.lt_of_lt_of_le hbl hb1.size
      have HX1 : Hid (RowAt cellsH 3 (u1.alloc (.cells #[.string id, .int .i64 u, .slice A1 v.length c1] 98)) (u1.heap.size + 1) (some ⟨u1.heap.size, 0, none⟩) 1 [⟨id, u, A1, c1, v⟩]) := one_row rowM (heap_alloc_new u1 _)
      replace HO := Lib.hid (HO.out.below hb1)
      replace HF1 := Lib.hid ((HF1.out.keep hb1).more hb1.size)
      replace HB := Lib.hid (HB.out.trans (hb1.mono HB.out.size))
      clear hb1
      generalize (u1.alloc (.cells #[.string id, .int .i64 u, .slice A1 v.length c1] 98)) = u2 at *
      generalize u1.heap.size = G1 at *
      refine hK.out _ _ ⟨e0, e1, e2⟩ (fun hHeld => ?_)
      clear hK K
      try simp only [Act.put, List.setIfInBounds_toArray, List.set_cons_zero, List.set_cons_succ]
      refine wpAnyH_ready (rs := [14]) (by kernel_rfl) (by simp) ?_
      refine (AllReadyH.cons (o := { dst := some 25, op := Go.Op.call { callee := Go.Callee.builtin Go.Builtin.append, args := #[Go.Operand.tmp 11, Go.Operand.tmp 24], argTypes := #[64, 64] }, type := 64, pos := "law.go:20", after := #[{ on := 0, ground := Go.Ground.data }, { on := 13, ground := Go.Ground.data }, { on := 11, ground := Go.Ground.chain }], guard := none }) rfl (fun K hK => ?_) AllReadyH.nil)
      refine step_append_row rowM (B := w.heap.size) (v := .slice Av k cv) (n := k) (zs := rs) (m := 1) (ys := [⟨id, u, A1, c1, v⟩]) (by rfl) _ _ (by rfl) (by rfl) HO.out.own (by rfl) HX1.out (by omega) (by exact HB.out.size) ?_
      intro A3 c3 w3 hown3 hg3 hat3
      have nk : some blk ≠ Value.ownBlock (.slice Av k cv) := fun e => by have := (HO.out.own.lt blk e.symm).1; omega
      replace e0 := (World.cell?_of_block (a := ⟨blk, off + k * 3, none⟩) (hg3.block blk hbl nk)).trans e0
      replace e1 := (World.cell?_of_block (a := ⟨blk, off + k * 3 + 1, none⟩) (hg3.block blk hbl nk)).trans e1
      replace e2 := (World.cell?_of_block (a := ⟨blk, off + k * 3 + 2, none⟩) (hg3.block blk hbl nk)).trans e2
      have HO3 := Lib.hid (HO.out.snoc HF1.out HA1.out hown3 hg3 hat3)
      replace HB := Lib.hid (HB.out.grown hg3 HB.out.size (fun g e => (HO.out.own.lt g e).1))
      clear hown3 hg3 hat3 nk HO HX1 HF1 HA1
      refine hK.out _ _ ⟨e0, e1, e2⟩ (fun hHeld => ?_)
      clear hK K
      try simp only [Act.put, List.setIfInBounds_toArray, List.set_cons_zero, List.set_cons_succ]
      refine wpAnyH_take (i := 15) (oi := { dst := some 3, op := Go.Op.assign (Go.Operand.tmp 25), type := 64, pos := "law.go:20", after := #[{ on := 14, ground := Go.Ground.data }, { on := 14, ground := Go.Ground.chain }, { on := 0, ground := Go.Ground.phase }, { on := 1, ground := Go.Ground.phase }, { on := 2, ground := Go.Ground.phase }, { on := 3, ground := Go.Ground.phase }, { on := 4, ground := Go.Ground.phase }, { on := 5, ground := Go.Ground.phase }, { on := 6, ground := Go.Ground.phase }, { on := 7, ground := Go.Ground.phase }, { on := 8, ground := Go.Ground.phase }, { on := 9, ground := Go.Ground.phase }, { on := 10, ground := Go.Ground.phase }, { on := 11, ground := Go.Ground.phase }, { on := 12, ground := Go.Ground.phase }, { on := 13, ground := Go.Ground.phase }, { on := 14, ground := Go.Ground.phase }], guard := none }) (v := ?_) rfl (by kernel_rfl) (by kernel_rfl) (by kernel_rfl) (fun _ _ _ h => h) (Or.inl ⟨rfl, ?_⟩) (by assumption) ?_
      rotate_left
      · intro wz hSw; (try dsimp only at hSw); go_simp; try (with_reducible rfl)
      try simp only [Act.put, List.setIfInBounds_toArray, List.set_cons_zero, List.set_cons_succ]
      refine wpAnyH_done (by kernel_rfl) ?_ _
      have HC3 : Hid (CopyM 98 w m (k + 1) A3 c3 w3) := ⟨⟨rs ++ [⟨id, u, A1, c1, v⟩], by rw [absH_append, HAB.out, HTS.out]; rfl, HO3.out⟩, HB.out⟩
      clear HO3 hHeld e0 e1 e2
      go_wp2
      go_roundw
      case rel => exact ⟨k + 1, A3, c3, by omega, by go_num, rfl, HC3⟩
      case measure => simp [intOf]; omega
    · obtain rfl : k = n := by omega
      have HT : Hid (m.take k = m) := List.take_of_length_le (by have := HL.out; omega)
      go_wp2
      go_ret
      rw [← HL.out] at HO ⊢
      exact ⟨Av, cv, rfl, ⟨rs, by rw [HAB.out, HT.out], HO.out⟩, HB.out⟩
/-- What push leaves: one Row more; only the block of the Rows may have changed. -/
def PushRet (B : Nat) (n : Nat) (A : Option Addr) (c : Nat) (rs : List Hd) (id : ByteArray) (s : Int × List Int) (w : World) (e : Ending) (w' : World) : Prop :=
  ∃ A3 c3 r, e = .returned (.slice A3 (n + 1) c3) ∧ r.id = id ∧ (r.u, r.v) = s ∧ OwnsH w' B 98 A3 (n + 1) c3 (rs ++ [r]) ∧ w.grownBy w' (Value.ownBlock (.slice A n c))
end Go.Proofs.Ytpaiigminmakgaa

/- know.pushAll, order and Union. -/
namespace Go.Proofs.Ytpaiigminmakgaa
open Go.RowKit

theorem drew_below (B : Nat) (w : World) : Below B w w.drew := ⟨rfl, rfl, rfl, Nat.le_refl _, fun _ _ => rfl⟩
/-- Some Rows more behind. -/
def MoreRet (B : Nat) (m : Mat) (w : World) (e : Ending) (w' : World) : Prop := ∃ A3 c3, e = .returned (.slice A3 m.length c3) ∧ OwnsM w' B 98 A3 m.length c3 m ∧ Below B w w'
set_option maxRecDepth 100000 in
set_option maxHeartbeats 1000000 in
theorem orderM_any (id : ByteArray) (u : Int) (Ar : Option Addr) (n c : Nat) (a : ByteArray) (w : World) :
    Calls Try.prog 83 #[.agg #[.string id, .int .i64 u, .slice Ar n c], .string a] w fun e w' => e = .returned (.int .i64 (cmpId id a)) ∧ Below w.heap.size w w' := by
  go_enter Try.func83, Try.ntmps83
  go_wp2_with (go_at_call 78; refine (compare_any _ _ _).mono ?_; rintro e w' ⟨rfl, rfl⟩)
  go_ret
  exact ⟨rfl, (Below.refl _ _).alloc (Nat.le_refl _) _⟩
theorem orderM_is (id : ByteArray) (u : Int) (Ar : Option Addr) (n c : Nat) (a : ByteArray) (x : Int) (h : Hid (cmpId id a = x)) (w : World) :
    Calls Try.prog 83 #[.agg #[.string id, .int .i64 u, .slice Ar n c], .string a] w fun e w' => e = .returned (.int .i64 x) ∧ Below w.heap.size w w' := by
  rw [← h.out]; exact orderM_any id u Ar n c a w

/-- Of each id what either has. -/
def mergeF : Mat → Mat → Mat
  | [], ys => ys
  | x :: xs, [] => x :: xs
  | x :: xs, y :: ys => if cmpId x.1 y.1 < 0 then x :: mergeF xs (y :: ys) else if 0 < cmpId x.1 y.1 then y :: mergeF (x :: xs) ys else (x.1, Sp.unionF x.2 y.2) :: mergeF xs ys
termination_by xs ys => xs.length + ys.length
theorem mergeF_nil (xs : Mat) : mergeF xs [] = xs := by cases xs <;> simp [mergeF]
theorem mergeF_lt {x y : ByteArray × (Int × List Int)} {xs ys : Mat} (h : cmpId x.1 y.1 < 0) : mergeF (x :: xs) (y :: ys) = x :: mergeF xs (y :: ys) := by rw [mergeF, if_pos h]
theorem mergeF_gt {x y : ByteArray × (Int × List Int)} {xs ys : Mat} (h : 0 < cmpId x.1 y.1) : mergeF (x :: xs) (y :: ys) = y :: mergeF (x :: xs) ys := by rw [mergeF, if_neg (by omega), if_pos h]
theorem mergeF_eq {x y : ByteArray × (Int × List Int)} {xs ys : Mat} (h : cmpId x.1 y.1 = 0) : mergeF (x :: xs) (y :: ys) = (x.1, Sp.unionF x.2 y.2) :: mergeF xs ys := by rw [mergeF, if_neg (by omega), if_neg (by omega)]
theorem cutM (ad : Addr) (n c : Nat) (hn : 0 < n) (hnc : n ≤ c) : ∃ A', (∀ W, (Instr.slice 64 (.slice (some ad) n c) (some (.int .i64 1)) none none).run Try.prog W = .ok (.slice A' (n - 1) (c - 1)) W) ∧
    ∀ (w : World) (B : Nat) (z : ByteArray × (Int × List Int)) (zs : Mat), MatAt w B (some ad) n (z :: zs) → MatAt w B A' (n - 1) zs := by
  have hel : Try.prog.elem 64 = 98 := by kernel_rfl
  have hsz : ∀ W, (sizeOf 98).run Try.prog W = .ok 3 W := fun W => by
    obtain ⟨i, hi, _, hz1, _⟩ := info_parts rowM.i
    simp [sizeOf, typeInfo, hi, hz1]
  refine ⟨if c = 1 then some ad else some (ad.add 3), fun W => ?_, fun w B z zs h => ?_⟩
  · rw [run_slice_l (P := Try.prog) W 64 (some ad) n c (by rw [hel]; exact Try.underlying64) .i64 1 (by omega) (by omega), hel, hsz]
    simp [sliced]
  · obtain ⟨b, off, _, e, _⟩ := h.get (Below.refl _ _) (k := 0) hn
    injection e with e
    subst e
    by_cases h1 : n = 1
    · subst h1
      have : zs = [] := by have := h.len; simp at this; exact this
      subst this
      exact MatAt.nil _ _ _
    · rw [if_neg (by omega), radd]
      obtain ⟨k, rfl⟩ : ∃ k, n = k + 1 := ⟨n - 1, by omega⟩
      exact h.tail
theorem MatAt.head {w wr : World} {B : Nat} {A : Option Addr} {n : Nat} {m : Mat} (h : MatAt w B A n m) (hb : Below B w wr) (hn : 0 < n) :
    ∃ blk off Ar cr, ∃ x : ByteArray × (Int × List Int), ∃ xt, A = some ⟨blk, off, none⟩ ∧ blk < B ∧ m = x :: xt ∧ wr.cell? ⟨blk, off, none⟩ = some (.string x.1) ∧ wr.cell? ⟨blk, off + 1, none⟩ = some (.int .i64 x.2.1) ∧ wr.cell? ⟨blk, off + 2, none⟩ = some (.slice Ar x.2.2.length cr) ∧ Sp.IntsAt wr B Ar x.2.2.length x.2.2 ∧ x.2.2.length ≤ cr := by
  have hl := h.len
  obtain ⟨b, off, r, e, hlt, hm, h0, h1, h2, hf⟩ := h.get hb (k := 0) hn
  match m, hl with
  | [], hl => simp at hl; omega
  | x :: xt, hl =>
    simp at hm
    subst hm
    exact ⟨b, off, r.A, r.c, _, xt, e, hlt, rfl, by simpa using h0, by simpa using h1, by simpa using h2, hf.vec, hf.cap⟩
theorem merge_len : ∀ (xs ys : Mat), (mergeF xs ys).length ≤ xs.length + ys.length
  | [], ys => by simp [mergeF]
  | x :: xs, [] => by simp [mergeF]
  | x :: xs, y :: ys => by
    rw [mergeF]
    split
    · have := merge_len xs (y :: ys); simp at this ⊢; omega
    · split
      · have := merge_len (x :: xs) ys; simp at this ⊢; omega
      · have := merge_len xs ys; simp at this ⊢; omega
termination_by xs ys => xs.length + ys.length
/-- Half way through Merge: o is done, xs and ys are left. -/
structure MergeRel (w : World) (B : Nat) (t xs ys : Mat) (A1 : Option Addr) (A2 : Option Addr) (Av : Option Addr) (nv cv : Nat) (o : Mat) (wr : World) : Prop where
  fx : MatAt w B A1 xs.length xs
  fy : MatAt w B A2 ys.length ys
  fo : OwnsM wr w.heap.size 98 Av nv cv o
  ft : o ++ mergeF xs ys = t
  fb : Below w.heap.size w wr
end Go.Proofs.Ytpaiigminmakgaa

/- know.find, Of and Has. -/
namespace Go.Proofs.Ytpaiigminmakgaa
open Go.RowKit

/-- The ids. -/
def keyL (m : Mat) : List At := m.map fun x => (x.1, 0)
def RisingM (m : Mat) : Prop := Rising (keyL m)
theorem keyL_len (m : Mat) : (keyL m).length = m.length := by simp [keyL]
theorem keyL_get {m : Mat} {k : Nat} {x : ByteArray × (Int × List Int)} (h : m[k]? = some x) : (keyL m).getD k atNil = (x.1, 0) := by
  rw [List.getD_eq_getElem?_getD]
  simp [keyL, h]
theorem risingM_iff (m : Mat) : RisingM m ↔ m.Pairwise fun x y => cmpId x.1 y.1 < 0 := by
  unfold RisingM Rising keyL
  rw [List.pairwise_map]
theorem RisingM.tail {x : ByteArray × (Int × List Int)} {m : Mat} (h : RisingM (x :: m)) : RisingM m := by
  rw [risingM_iff] at *
  exact (List.pairwise_cons.mp h).2
/-- One's numbers. -/
def mOf : Mat → ByteArray → Int × List Int
  | [], _ => (0, [])
  | x :: r, a => if x.1 = a then x.2 else mOf r a
theorem mOf_none : ∀ {m : Mat} {a : ByteArray}, (∀ x ∈ m, x.1 ≠ a) → mOf m a = (0, [])
  | [], _, _ => rfl
  | x :: r, a, h => by rw [mOf, if_neg (h x (by simp))]; exact mOf_none fun y hy => h y (by simp [hy])
theorem mOf_mem : ∀ {m : Mat} {x : ByteArray × (Int × List Int)}, RisingM m → x ∈ m → mOf m x.1 = x.2
  | y :: r, x, h, hx => by
    rcases List.mem_cons.mp hx with rfl | hx'
    · rw [mOf, if_pos rfl]
    · have h1 := (List.pairwise_cons.mp ((risingM_iff _).mp h)).1 x hx'
      rw [mOf, if_neg (fun e => by rw [e, cmpId_self] at h1; omega)]
      exact mOf_mem h.tail hx'
theorem keyL_no {m : Mat} {a : ByteArray} (h : ∀ x ∈ keyL m, x.1 ≠ a) : ∀ x ∈ m, x.1 ≠ a := fun x hx => h (x.1, 0) (by simp only [keyL, List.mem_map]; exact ⟨x, hx, rfl⟩)

set_option maxRecDepth 100000 in
set_option maxHeartbeats 1000000 in
theorem searchM_any (A : Option Addr) (n c : Nat) (m : Mat) (a : ByteArray) (B : Nat) (w : World) (hB : B ≤ w.heap.size) (hz : MatAt w B A n m) (hn : n ≤ 1099511627776) (hs : RisingM m) :
    Calls Try.prog 82 #[.slice A n c, .string a, .func (.func 83) #[] #[]] w fun e w' => Found a (keyL m) e ∧ Below w.heap.size w w' := by
  have hl : (keyL m).length = n := by rw [keyL_len]; exact hz.len
  have HL := Lib.hid hl
  have HS : Hid (Rising (keyL m)) := hs
  have HZ := Lib.hid hz
  clear hl hs hz
  go_enter Try.func82, Try.ntmps82
  go_wp2
  go_loopw [9, 10, 11] (fun i j _ wr => ∃ p q : Nat, p ≤ q ∧ q ≤ n ∧ i = .int .i64 p ∧ j = .int .i64 q ∧ Hid (Parts (keyL m) a p q) ∧ Hid (Below w.heap.size w wr)) (fun i j _ _ => ((intOf j) - (intOf i)).toNat)
  case atStart => exact ⟨0, n, by omega, by omega, rfl, rfl, by show Parts _ _ _ _; rw [← HL.out]; exact parts_start (keyL m) a, Below.refl _ _⟩
  case round =>
    obtain ⟨p, q, hpq, hqn, rfl, rfl, HQ, HB⟩ := hrel
    by_cases hlt : p < q
    · obtain ⟨blk, off, r, rfl, hbB, hmk, hc1, hc2, hc3, _⟩ := HZ.out.get (HB.out.mono hB) (k := (p + q) / 2) (by omega)
      have hm : (p + q) / 2 < (keyL m).length := by have := HL.out; omega
      have hkg := keyL_get hmk
      obtain ⟨y, hy⟩ : ∃ y, cmpId r.id a = y := ⟨_, rfl⟩
      by_cases hx : y < 0
      · have HN : Hid (Parts (keyL m) a ((p + q) / 2 + 1) q) := parts_lo HS.out HQ.out hm (by rw [hkg]; show cmpId r.id a < 0; omega)
        have HY := Lib.hid hy
        obtain ⟨id, u, Ar, cr, v⟩ := r
        simp only at hc1 hc2 hc3 HY
        clear hm hy hmk hkg
        go_wp2_with fail
        refine (orderM_is _ _ _ _ _ _ _ HY _).mono ?_
        rintro e w1 ⟨rfl, hb1⟩
        have HB1 : Hid (Below w.heap.size w w1) := HB.out.trans (hb1.mono HB.out.size)
        clear hb1
        go_wp2
        go_roundw
        case rel => exact ⟨(p + q) / 2 + 1, q, by omega, by omega, by go_num, rfl, HN, HB1⟩
        case measure => simp [intOf]; omega
      · have HN : Hid (Parts (keyL m) a p ((p + q) / 2)) := parts_hi HS.out HQ.out (by rw [hkg]; show ¬ cmpId r.id a < 0; omega)
        have HY := Lib.hid hy
        obtain ⟨id, u, Ar, cr, v⟩ := r
        simp only at hc1 hc2 hc3 HY
        clear hm hy hmk hkg
        go_wp2_with fail
        refine (orderM_is _ _ _ _ _ _ _ HY _).mono ?_
        rintro e w1 ⟨rfl, hb1⟩
        have HB1 : Hid (Below w.heap.size w w1) := HB.out.trans (hb1.mono HB.out.size)
        clear hb1
        go_wp2
        go_roundw
        case rel => exact ⟨p, (p + q) / 2, by omega, by omega, rfl, by go_num, HN, HB1⟩
        case measure => simp [intOf]; omega
    · obtain rfl : p = q := by omega
      by_cases hpn : p < n
      · obtain ⟨blk, off, r, rfl, hbB, hmk, hc1, hc2, hc3, _⟩ := HZ.out.get (HB.out.mono hB) (k := p) hpn
        have hkg := keyL_get hmk
        obtain ⟨y, hy⟩ : ∃ y, cmpId r.id a = y := ⟨_, rfl⟩
        by_cases hx : y = 0
        · have HF : Hid (((keyL m).getD p atNil).1 = a) := by show _ = _; rw [hkg]; exact (cmpId_zero _ _).mp (by show cmpId r.id a = 0; omega)
          have hx' : (y == 0) = true := by simp [hx]
          have HY := Lib.hid hy
          obtain ⟨id, u, Ar, cr, v⟩ := r
          simp only at hc1 hc2 hc3 HY
          clear hy hx hmk hkg
          go_wp2_with fail
          refine (orderM_is _ _ _ _ _ _ _ HY _).mono ?_
          rintro e w1 ⟨rfl, hb1⟩
          have HB1 : Hid (Below w.heap.size w w1) := HB.out.trans (hb1.mono HB.out.size)
          clear hb1
          go_wp2
          go_ret2
          exact ⟨Or.inl ⟨p, by have := HL.out; omega, HF.out, rfl⟩, HB1.out⟩
        · have HF : Hid (∀ x ∈ keyL m, x.1 ≠ a) := parts_none HS.out HQ.out (fun h => by rw [hkg] at h; have := h.2; change cmpId r.id a = 0 at this; omega)
          have hx' : (y == 0) = false := by simp [hx]
          have HY := Lib.hid hy
          obtain ⟨id, u, Ar, cr, v⟩ := r
          simp only at hc1 hc2 hc3 HY
          clear hy hx hmk hkg
          go_wp2_with fail
          refine (orderM_is _ _ _ _ _ _ _ HY _).mono ?_
          rintro e w1 ⟨rfl, hb1⟩
          have HB1 : Hid (Below w.heap.size w w1) := HB.out.trans (hb1.mono HB.out.size)
          clear hb1
          go_wp2
          go_ret2
          exact ⟨Or.inr ⟨HF.out, p, rfl⟩, HB1.out⟩
      · have HF : Hid (∀ x ∈ keyL m, x.1 ≠ a) := parts_none HS.out HQ.out (fun h => by have := HL.out; omega)
        go_wp2
        go_ret2
        exact ⟨Or.inr ⟨HF.out, p, rfl⟩, HB.out⟩
/-- A Span that lies below B is answered. -/
def SeeS (B : Nat) (s : Int × List Int) (w : World) (e : Ending) (w' : World) : Prop := ∃ A c, e = .returned (.agg #[.int .i64 s.1, .slice A s.2.length c]) ∧ s.2.length ≤ c ∧ Sp.IntsAt w' B A s.2.length s.2 ∧ Below w.heap.size w w'
set_option maxRecDepth 100000 in
set_option maxHeartbeats 1000000 in
theorem findM_any (A : Option Addr) (n c : Nat) (m : Mat) (a : ByteArray) (B : Nat) (w : World) (hB : B ≤ w.heap.size) (hz : MatAt w B A n m) (hn : n ≤ 1099511627776) (hs : RisingM m) :
    Calls Try.prog 70 #[.slice A n c, .string a] w (SeeS B (mOf m a) w) := by
  have HS := Lib.hid hs
  have HZ := Lib.hid hz
  clear hs hz
  go_enter Try.func70, Try.ntmps70
  go_wp2_with fail
  refine (searchM_any A n c m a B _ (by simp; omega) (HZ.out.keep ((Below.refl _ _).alloc hB _)) hn HS.out).mono ?_
  rintro e w1 ⟨hf, hb1⟩
  have HB1 : Hid (Below w.heap.size w w1) := ((Below.refl _ _).alloc (Nat.le_refl _) _).trans (hb1.mono (by simp))
  obtain ⟨hcc, hff⟩ := Sp.below_cells hb1
  have hsz : w.heap.size < w1.heap.size := by have := hb1.size; simp at this; omega
  have k0 : w1.cell? ⟨w.heap.size, 0, none⟩ = some (.int .i64 0) := (hcc _ _ (by simp)).trans (by simp [go_sem])
  have k1 : w1.cell? ⟨w.heap.size, 1, none⟩ = some (.slice none 0 0) := (hcc _ _ (by simp)).trans (by simp [go_sem])
  have f0 : w1.frozen? ⟨w.heap.size, 0, none⟩ = false := (hff _ _ (by simp)).trans (by simp [go_sem])
  have f1 : w1.frozen? ⟨w.heap.size, 1, none⟩ = false := (hff _ _ (by simp)).trans (by simp [go_sem])
  clear hb1 hcc hff
  rcases hf with ⟨k, hk, hka, rfl⟩ | ⟨hno, k, rfl⟩
  · have hkn : k < n := by rw [keyL_len] at hk; have := HZ.out.len; omega
    obtain ⟨blk, off, r, rfl, hbB, hmk, hc1, hc2, hc3, hf⟩ := HZ.out.get (HB1.out.mono hB) (k := k) hkn
    have HR : Hid (mOf m a = (r.u, r.v)) := by
      show _ = _
      rw [keyL_get hmk] at hka
      rw [← hka]
      exact mOf_mem HS.out (List.mem_of_getElem? hmk)
    have HF := Lib.hid hf
    obtain ⟨id, u, Ar, cr, v⟩ := r
    simp only at hc1 hc2 hc3 HR
    clear hka hk hmk hf
    go_wp2
    refine bodyPost_ret (v := .agg #[.int .i64 u, .slice Ar v.length cr]) ?_ rfl ?_
    · simp [results, Try.results70, go_sem, k0, k1]
    · unfold SeeS
      rw [HR.out]
      exact ⟨Ar, cr, rfl, HF.out.cap, HF.out.vec.keep (((Below.refl _ _).setCell (p := ⟨w.heap.size, 0, none⟩) hB _).setCell (p := ⟨w.heap.size, 1, none⟩) hB _), (HB1.out.setCell (p := ⟨w.heap.size, 0, none⟩) (Nat.le_refl _) _).setCell (p := ⟨w.heap.size, 1, none⟩) (Nat.le_refl _) _⟩
  · have HR : Hid (mOf m a = (0, [])) := mOf_none (keyL_no hno)
    clear hno
    go_wp2
    refine bodyPost_ret (v := .agg #[.int .i64 0, .slice none 0 0]) ?_ rfl ?_
    · simp [results, Try.results70, go_sem, k0, k1]
    · unfold SeeS
      rw [HR.out]
      exact ⟨none, 0, rfl, Nat.le_refl _, Sp.IntsAt.nil _ _ _, (HB1.out.setCell (p := ⟨w.heap.size, 0, none⟩) (Nat.le_refl _) _).setCell (p := ⟨w.heap.size, 1, none⟩) (Nat.le_refl _) _⟩
theorem okS_nil : OkS (0, []) := ⟨⟨Int.le_refl _, List.Pairwise.nil, by simp⟩, by simp, by simp⟩
theorem mOf_okS {m : Mat} (hs : RisingM m) (h : ∀ x ∈ m, OkS x.2) (a : ByteArray) : OkS (mOf m a) := by
  by_cases he : ∃ x ∈ m, x.1 = a
  · obtain ⟨x, hx, rfl⟩ := he
    rw [mOf_mem hs hx]; exact h x hx
  · rw [mOf_none (fun x hx e => he ⟨x, hx, e⟩)]; exact okS_nil
set_option maxRecDepth 100000 in
set_option maxHeartbeats 1000000 in
theorem hasM_any (A : Option Addr) (n c : Nat) (m : Mat) (a : ByteArray) (t : Int) (B : Nat) (w : World) (hB : B ≤ w.heap.size) (hz : MatAt w B A n m) (hn : n ≤ 1099511627776) (hs : RisingM m) (hl : OkS (mOf m a)) :
    Calls Try.prog 52 #[.slice A n c, .string a, .int .i64 t] w fun e w' => e = .returned (.bool (Sp.hasOf (mOf m a).1 (mOf m a).2 t)) ∧ Below w.heap.size w w' := by
  have HF := Lib.hid (findM_any A n c m a B w hB hz hn hs)
  have HL := Lib.hid hl
  generalize mOf m a = s at *
  clear hs hz hl
  obtain ⟨u, v⟩ := s
  have HP : Hid (∀ w2 A2 c2, Sp.IntsAt w2 B A2 v.length v → B ≤ w2.heap.size → Calls Try.prog 69 #[.agg #[.int .i64 u, .slice A2 v.length c2], .int .i64 t] w2 fun e w' => e = .returned (.bool (Sp.hasOf u v t)) ∧ Below w2.heap.size w2 w') := fun w2 A2 c2 h hb => Sp.has_any u A2 v.length c2 v t B w2 hb h (by have := HL.out.len; simp at this; omega) HL.out.ok.2.1
  dsimp only
  generalize Sp.hasOf u v t = d at *
  go_enter Try.func52, Try.ntmps52
  go_wp2_with fail
  refine HF.out.mono ?_
  rintro e w1 ⟨A1, c1, rfl, hc1, hv, hb⟩
  dsimp only at hc1 hv ⊢
  have HQ := Lib.hid (HP.out w1 A1 c1 hv (Nat.le_trans hB hb.size))
  have HB := Lib.hid hb
  clear hv hb HF HP HL
  go_wp2_with fail
  refine HQ.out.mono ?_
  rintro e w2 ⟨rfl, hb⟩
  have HB2 := Lib.hid (HB.out.trans (hb.mono HB.out.size))
  clear hb HQ
  go_wp2
  go_ret
  exact ⟨rfl, HB2.out⟩
end Go.Proofs.Ytpaiigminmakgaa

/- Rows of texts: how they lie; the law's To and From of ids. -/
namespace Go.Proofs.Ytpaiigminmakgaa
open Go.RowKit

def cellsT (s : ByteArray) : List Value := [.string s]
def zeroT : Value := .string ⟨#[]⟩
theorem cellsT_one : ∀ x, ∀ u ∈ cellsT x, u.oneCell' = true := by
  intro x u hu
  simp only [cellsT, List.mem_singleton] at hu
  subst hu
  rfl
theorem RowAt.text {w wr : World} {B : Nat} {A : Option Addr} {n : Nat} {zs : List ByteArray} (h : RowAt cellsT 1 w B A n zs) (hb : Below B w wr) {k : Nat} (hk : k < n) :
    ∃ blk off s, A = some ⟨blk, off, none⟩ ∧ blk < B ∧ zs[k]? = some s ∧ wr.cell? ⟨blk, off + k, none⟩ = some (.string s) := by
  obtain ⟨b, off, e, hlt, z, hz, hc⟩ := h.get hk
  refine ⟨b, off, z, e, hlt, hz, ?_⟩
  have := hc 0 (.string z) rfl
  rw [Nat.mul_one, Nat.add_zero] at this
  exact (hb.cell (p := ⟨b, off + k, none⟩) hlt).trans this
theorem snocT {zs : List ByteArray} {k : Nat} {z : ByteArray} (h : zs[k]? = some z) : zs.take (k + 1) = zs.take k ++ [z] := by
  rw [List.take_add_one, h]
  rfl
/-- A copy, half way. -/
def CopyT (e : TypeId) (w : World) (zs : List ByteArray) (k : Nat) (Av : Option Addr) (cv : Nat) (wr : World) : Prop :=
  wr.ownsRow w.heap.size e 1 (.slice Av k cv) k (rowCells cellsT (zs.take k)) ∧ Below w.heap.size w wr

end Go.Proofs.Ytpaiigminmakgaa

/- know.Drop, Same, Count and Extras. -/
namespace Go.Proofs.Ytpaiigminmakgaa
open Go.RowKit

/-- Without one's. -/
def dropM (m : Mat) (a : ByteArray) : Mat := m.filter fun x => decide (x.1 ≠ a)
theorem dropM_len (m : Mat) (a : ByteArray) : (dropM m a).length ≤ m.length := List.length_filter_le _ _
theorem dropM_take {m : Mat} {k : Nat} {x : ByteArray × (Int × List Int)} (a : ByteArray) (h : m[k]? = some x) : dropM (m.take (k + 1)) a = dropM (m.take k) a ++ (if x.1 = a then [] else [x]) := by
  rw [takeM h]
  unfold dropM
  rw [List.filter_append]
  by_cases e : x.1 = a <;> simp [e]
/-- Do two Rows say the same? -/
def sameR (x y : ByteArray × (Int × List Int)) : Bool := decide (x = y)
def sameM (x y : Mat) : Bool := decide (x = y)
theorem sameM_self (x : Mat) : sameM x x = true := decide_eq_true rfl
def countM (m : Mat) : Int := (m.map fun x => x.2.1 + (x.2.2.length : Int)).sum
def extrasM (m : Mat) : Int := (m.map fun x => (x.2.2.length : Int)).sum
theorem sum_take {f : ByteArray × (Int × List Int) → Int} {m : Mat} {k : Nat} {x : ByteArray × (Int × List Int)} (h : m[k]? = some x) : ((m.take (k + 1)).map f).sum = ((m.take k).map f).sum + f x := by
  rw [takeM h]; simp
theorem sum_bd (f : ByteArray × (Int × List Int) → Int) (C : Int) (hC : 0 ≤ C) : ∀ m : Mat, (∀ x ∈ m, 0 ≤ f x ∧ f x ≤ C) → 0 ≤ (m.map f).sum ∧ (m.map f).sum ≤ m.length * C
  | [], _ => by simp
  | x :: r, h => by
    have h1 := h x (by simp)
    have h2 := sum_bd f C hC r (fun y hy => h y (by simp [hy]))
    simp only [List.map_cons, List.sum_cons, List.length_cons]
    constructor
    · omega
    · rw [show ((r.length + 1 : Nat) : Int) * C = r.length * C + C by rw [Int.natCast_add, Int.add_mul]; simp]; omega
theorem okS_bd {s : Int × List Int} (h : OkS s) : 0 ≤ s.1 + (s.2.length : Int) ∧ s.1 + (s.2.length : Int) ≤ 2000000 := by
  have := h.ok.1; have := h.hi; have := h.len; omega
theorem mul_bd {k : Nat} (hk : k ≤ 100000) : (k : Int) * 2000000 ≤ 200000000000 := by
  have : (k : Int) ≤ 100000 := by omega
  omega
end Go.Proofs.Ytpaiigminmakgaa

/- know.Right. -/
namespace Go.Proofs.Ytpaiigminmakgaa
open Go.RowKit

def okRow (x : ByteArray × (Int × List Int)) : Bool := rightL x.1.data.toList && (Sp.rightF x.2.1 x.2.2 && decide (x.2.1 + (x.2.2.length : Int) ≠ 0))
def prevOk (p : Option ByteArray) (a : ByteArray) : Bool := match p with | none => true | some q => decide (cmpId q a < 0)
theorem prevOk_none (a : ByteArray) : prevOk none a = true := rfl
theorem prevOk_some (q a : ByteArray) : prevOk (some q) a = decide (cmpId q a < 0) := rfl
def rightFromM : Option ByteArray → Mat → Bool
  | _, [] => true
  | p, x :: r => okRow x && (prevOk p x.1 && rightFromM (some x.1) r)
theorem rightFromM_cons (p : Option ByteArray) (x : ByteArray × (Int × List Int)) (r : Mat) : rightFromM p (x :: r) = (okRow x && (prevOk p x.1 && rightFromM (some x.1) r)) := rfl
/-- May it be a Know? -/
def rightM (m : Mat) : Bool := rightFromM none m
def prevI (m : Mat) (k : Nat) : Option ByteArray := if k = 0 then none else (m[k - 1]?).map (·.1)
theorem rightM_step {m : Mat} {k : Nat} {x : ByteArray × (Int × List Int)} (h : m[k]? = some x) : rightFromM (prevI m k) (m.drop k) = (okRow x && (prevOk (prevI m k) x.1 && rightFromM (prevI m (k + 1)) (m.drop (k + 1)))) := by
  obtain ⟨hk, rfl⟩ := List.getElem?_eq_some_iff.mp h
  rw [List.drop_eq_getElem_cons hk]
  have e : prevI m (k + 1) = some m[k].1 := by unfold prevI; simp [List.getElem?_eq_getElem hk]
  rw [e]
  rfl
/-- Numbers that may be. -/
def GoodSE (s : Int × List Int) : Prop := Sp.rightF s.1 s.2 = true ∧ s.1 + (s.2.length : Int) ≠ 0
/-- Rows that may be, rising. -/
def GoodM (m : Mat) : Prop := RisingM m ∧ ∀ x ∈ m, rightL x.1.data.toList = true ∧ GoodSE x.2
theorem okRow_iff (x : ByteArray × (Int × List Int)) : okRow x = true ↔ rightL x.1.data.toList = true ∧ GoodSE x.2 := by
  unfold okRow GoodSE
  rw [Bool.and_eq_true, Bool.and_eq_true, decide_eq_true_iff]
theorem rightFromM_iff : ∀ (m : Mat) (p : Option ByteArray), rightFromM p m = true ↔ GoodM m ∧ ∀ q, p = some q → ∀ x ∈ m, cmpId q x.1 < 0
  | [], p => by
    constructor
    · intro _; exact ⟨⟨List.Pairwise.nil, by simp⟩, fun _ _ x hx => by simp at hx⟩
    · intro _; rfl
  | x :: r, p => by
    have ih := rightFromM_iff r (some x.1)
    rw [rightFromM_cons, Bool.and_eq_true, Bool.and_eq_true, ih, okRow_iff]
    constructor
    · rintro ⟨h1, h2, ⟨h3, h4⟩, h5⟩
      have h6 := h5 x.1 rfl
      refine ⟨⟨(risingM_iff _).mpr (List.pairwise_cons.mpr ⟨h6, (risingM_iff _).mp h3⟩), fun y hy => ?_⟩, fun q hq y hy => ?_⟩
      · rcases List.mem_cons.mp hy with rfl | hy
        · exact h1
        · exact h4 y hy
      · subst hq
        have h2' : cmpId q x.1 < 0 := by rw [prevOk_some] at h2; simpa using h2
        rcases List.mem_cons.mp hy with rfl | hy
        · exact h2'
        · have := h6 y hy
          exact cmpId_lt q x.1 y.1 h2' (by omega)
    · rintro ⟨⟨h1, h2⟩, h3⟩
      have h4 := List.pairwise_cons.mp ((risingM_iff _).mp h1)
      refine ⟨h2 x (by simp), ?_, ⟨(risingM_iff _).mpr h4.2, fun y hy => h2 y (by simp [hy])⟩, fun q hq y hy => by injection hq with hq; subst hq; exact h4.1 y hy⟩
      cases p with
      | none => rfl
      | some q => rw [prevOk_some, decide_eq_true_iff]; exact h3 q rfl x (by simp)
theorem rightM_iff (m : Mat) : rightM m = true ↔ GoodM m := by
  unfold rightM
  rw [rightFromM_iff]
  exact ⟨fun h => h.1, fun h => ⟨h, fun q e => by cases e⟩⟩

theorem right_bd {u : Int} {v : List Int} (h : Sp.rightF u v = true) : 0 ≤ u ∧ u ≤ 1048576 := by
  unfold Sp.rightF at h
  rw [Bool.and_eq_true, decide_eq_true_iff] at h
  exact ⟨h.1.1, h.1.2.1⟩
end Go.Proofs.Ytpaiigminmakgaa

/- Knows that may be: what Union says of each id; two that say the same are the same. Plain mathematics. -/
namespace Go.Proofs.Ytpaiigminmakgaa
open Go.RowKit

theorem mOf_head (x : ByteArray × (Int × List Int)) (m : Mat) : mOf (x :: m) x.1 = x.2 := by rw [mOf, if_pos rfl]
theorem mOf_cons_ne {x : ByteArray × (Int × List Int)} {m : Mat} {a : ByteArray} (h : x.1 ≠ a) : mOf (x :: m) a = mOf m a := by rw [mOf, if_neg h]
theorem mOf_ahead {y : ByteArray × (Int × List Int)} {ys : Mat} (h : RisingM (y :: ys)) {a : ByteArray} (ha : cmpId a y.1 < 0) : mOf (y :: ys) a = (0, []) := by
  refine mOf_none fun x hx e => ?_
  have h1 := (List.pairwise_cons.mp ((risingM_iff _).mp h)).1
  rcases List.mem_cons.mp hx with rfl | hx
  · rw [e, cmpId_self] at ha; omega
  · have := cmpId_lt a y.1 x.1 ha (by have := h1 x hx; omega)
    rw [e, cmpId_self] at this
    omega
theorem mOf_tail {x : ByteArray × (Int × List Int)} {m : Mat} (h : RisingM (x :: m)) : mOf m x.1 = (0, []) := by
  refine mOf_none fun y hy e => ?_
  have h1 := (List.pairwise_cons.mp ((risingM_iff _).mp h)).1 y hy
  rw [e, cmpId_self] at h1
  omega
theorem RisingM.head {x : ByteArray × (Int × List Int)} {m : Mat} (h : RisingM (x :: m)) : ∀ y ∈ m, cmpId x.1 y.1 < 0 := (List.pairwise_cons.mp ((risingM_iff _).mp h)).1
theorem RisingM.cons {x : ByteArray × (Int × List Int)} {m : Mat} (h : ∀ y ∈ m, cmpId x.1 y.1 < 0) (hm : RisingM m) : RisingM (x :: m) := (risingM_iff _).mpr (List.pairwise_cons.mpr ⟨h, (risingM_iff _).mp hm⟩)
theorem mat_ext : ∀ {xs ys : Mat}, RisingM xs → RisingM ys → (∀ x ∈ xs, x.2 ≠ (0, [])) → (∀ y ∈ ys, y.2 ≠ (0, [])) → (∀ a, mOf xs a = mOf ys a) → xs = ys
  | [], [], _, _, _, _, _ => rfl
  | [], y :: ys, _, _, _, py, h => absurd (by have := h y.1; rw [mOf_head] at this; exact this.symm) (py y (by simp))
  | x :: xs, [], _, _, px, _, h => absurd (by have := h x.1; rw [mOf_head] at this; exact this) (px x (by simp))
  | x :: xs, y :: ys, hx, hy, px, py, h => by
    have p1 := px x (by simp)
    have p2 := py y (by simp)
    have h1 := h x.1
    have h2 := h y.1
    rw [mOf_head] at h1 h2
    rcases cmpId_three x.1 y.1 with c | c | c
    · rw [mOf_ahead hy (by omega)] at h1; exact absurd h1 p1
    · have e := (cmpId_zero _ _).mp c
      rw [e, mOf_head] at h1
      have exy : x = y := Prod.ext e h1
      subst exy
      congr 1
      refine mat_ext hx.tail hy.tail (fun z hz => px z (by simp [hz])) (fun z hz => py z (by simp [hz])) fun a => ?_
      by_cases ha : x.1 = a
      · rw [← ha, mOf_tail hx, mOf_tail hy]
      · have := h a
        rwa [mOf_cons_ne ha, mOf_cons_ne ha] at this
    · have c' := cmpId_neg x.1 y.1
      rw [mOf_ahead hx (by omega)] at h2; exact absurd h2.symm p2
theorem mem_merge : ∀ (xs ys : Mat) {z : ByteArray × (Int × List Int)}, z ∈ mergeF xs ys → z ∈ xs ∨ z ∈ ys ∨ ∃ x ∈ xs, ∃ y ∈ ys, x.1 = y.1 ∧ z = (x.1, Sp.unionF x.2 y.2)
  | [], ys, z, h => by rw [mergeF] at h; exact .inr (.inl h)
  | x :: xs, [], z, h => by rw [mergeF_nil] at h; exact .inl h
  | x :: xs, y :: ys, z, h => by
    rcases cmpId_three x.1 y.1 with c | c | c
    · rw [mergeF_lt (by omega)] at h
      rcases List.mem_cons.mp h with rfl | h
      · exact .inl (by simp)
      · rcases mem_merge xs (y :: ys) h with h | h | ⟨u, hu, v, hv, e⟩
        · exact .inl (by simp [h])
        · exact .inr (.inl h)
        · exact .inr (.inr ⟨u, by simp [hu], v, hv, e⟩)
    · rw [mergeF_eq c] at h
      rcases List.mem_cons.mp h with rfl | h
      · exact .inr (.inr ⟨x, by simp, y, by simp, (cmpId_zero _ _).mp c, rfl⟩)
      · rcases mem_merge xs ys h with h | h | ⟨u, hu, v, hv, e⟩
        · exact .inl (by simp [h])
        · exact .inr (.inl (by simp [h]))
        · exact .inr (.inr ⟨u, by simp [hu], v, by simp [hv], e⟩)
    · rw [mergeF_gt (by omega)] at h
      rcases List.mem_cons.mp h with rfl | h
      · exact .inr (.inl (by simp))
      · rcases mem_merge (x :: xs) ys h with h | h | ⟨u, hu, v, hv, e⟩
        · exact .inl h
        · exact .inr (.inl (by simp [h]))
        · exact .inr (.inr ⟨u, hu, v, by simp [hv], e⟩)
  termination_by xs ys => xs.length + ys.length
theorem merge_id {xs ys : Mat} {z : ByteArray × (Int × List Int)} (h : z ∈ mergeF xs ys) : (∃ x ∈ xs, x.1 = z.1) ∨ ∃ y ∈ ys, y.1 = z.1 := by
  rcases mem_merge xs ys h with h | h | ⟨u, hu, v, hv, e, rfl⟩
  · exact .inl ⟨z, h, rfl⟩
  · exact .inr ⟨z, h, rfl⟩
  · exact .inl ⟨u, hu, rfl⟩
theorem rising_merge : ∀ {xs ys : Mat}, RisingM xs → RisingM ys → RisingM (mergeF xs ys)
  | [], ys, _, hy => by rw [mergeF]; exact hy
  | x :: xs, [], hx, _ => by rw [mergeF_nil]; exact hx
  | x :: xs, y :: ys, hx, hy => by
    have hx1 := hx.head
    have hy1 := hy.head
    rcases cmpId_three x.1 y.1 with c | c | c
    · rw [mergeF_lt (by omega)]
      refine RisingM.cons (fun z hz => ?_) (rising_merge hx.tail hy)
      rcases merge_id hz with ⟨u, hu, e⟩ | ⟨u, hu, e⟩
      · rw [← e]; exact hx1 u hu
      · rw [← e]
        rcases List.mem_cons.mp hu with rfl | hu
        · omega
        · exact cmpId_lt _ _ _ (show cmpId x.1 y.1 < 0 by omega) (by have := hy1 u hu; omega)
    · rw [mergeF_eq c]
      have e := (cmpId_zero _ _).mp c
      refine RisingM.cons (fun z hz => ?_) (rising_merge hx.tail hy.tail)
      rcases merge_id hz with ⟨u, hu, e2⟩ | ⟨u, hu, e2⟩
      · rw [← e2]; exact hx1 u hu
      · rw [← e2]; show cmpId x.1 u.1 < 0; rw [e]; exact hy1 u hu
    · rw [mergeF_gt (by omega)]
      have c' := cmpId_neg x.1 y.1
      refine RisingM.cons (fun z hz => ?_) (rising_merge hx hy.tail)
      rcases merge_id hz with ⟨u, hu, e⟩ | ⟨u, hu, e⟩
      · rw [← e]
        rcases List.mem_cons.mp hu with rfl | hu
        · omega
        · exact cmpId_lt _ _ _ (show cmpId y.1 x.1 < 0 by omega) (by have := hx1 u hu; omega)
      · rw [← e]; exact hy1 u hu
  termination_by xs ys => xs.length + ys.length
/-- Numbers that may be, with no more than k beyond a hole. -/
structure Num (k : Nat) (s : Int × List Int) : Prop where
  ok : Sp.Ok s
  top : ∀ x, Sp.Mem x s → x ≤ 1048576
  len : s.2.length ≤ k
theorem ok_nil : Sp.Ok (0, []) := ⟨Int.le_refl _, List.Pairwise.nil, by simp⟩
theorem mem_nil {x : Int} (h : Sp.Mem x (0, [])) : False := by
  rcases h with h | h
  · simp at h; omega
  · simp at h
theorem Num.nil (k : Nat) : Num k (0, []) := ⟨ok_nil, fun _ h => (mem_nil h).elim, Nat.zero_le _⟩
theorem Num.more {k l : Nat} {s : Int × List Int} (h : Num k s) (hl : k ≤ l) : Num l s := ⟨h.ok, h.top, Nat.le_trans h.len hl⟩
theorem Num.hi {k : Nat} {s : Int × List Int} (h : Num k s) : s.1 ≤ 1048576 := by
  rcases Int.lt_or_le s.1 1 with h1 | h1
  · omega
  · exact h.top _ (.inl ⟨h1, Int.le_refl _⟩)
theorem Num.okS {k : Nat} {s : Int × List Int} (h : Num k s) (hk : k ≤ 100000) : OkS s := ⟨h.ok, h.hi, Nat.le_trans h.len hk⟩
theorem union_len (s t : Int × List Int) : (Sp.unionF s t).2.length ≤ s.2.length + t.2.length := by
  have h := (Sp.fold_lo (Sp.mergeF s.2 t.2) (Sp.firstU (max s.1 t.1), [])).2.2
  have h2 : (Sp.mergeF s.2 t.2).length = s.2.length + t.2.length := by unfold Sp.mergeF; rw [List.length_merge]
  unfold Sp.unionF
  rw [h2] at h
  simpa using h
theorem Num.mem_union {k l : Nat} {s t : Int × List Int} (hs : Num k s) (ht : Num l t) (x : Int) : Sp.Mem x (Sp.unionF s t) ↔ Sp.Mem x s ∨ Sp.Mem x t := (Sp.union_ok hs.ok ht.ok hs.hi ht.hi).2 x
theorem Num.union {k l : Nat} {s t : Int × List Int} (hs : Num k s) (ht : Num l t) : Num (k + l) (Sp.unionF s t) :=
  ⟨(Sp.union_ok hs.ok ht.ok hs.hi ht.hi).1, fun x hx => by
    rcases (hs.mem_union ht x).mp hx with h | h
    · exact hs.top x h
    · exact ht.top x h, by have := union_len s t; have := hs.len; have := ht.len; omega⟩
theorem Num.ext {k l : Nat} {s t : Int × List Int} (hs : Num k s) (ht : Num l t) (h : ∀ x, Sp.Mem x s ↔ Sp.Mem x t) : s = t := Sp.Ok.ext hs.ok ht.ok h
theorem Num.union_nil {k : Nat} {s : Int × List Int} (h : Num k s) : Sp.unionF s (0, []) = s := clone_same h.ok h.hi
theorem Num.nil_union {k : Nat} {s : Int × List Int} (h : Num k s) : Sp.unionF (0, []) s = s := ((Num.nil k).union h).ext h fun x => by
  rw [(Num.nil k).mem_union h x]
  exact ⟨fun h => h.elim (fun h => (mem_nil h).elim) id, .inr⟩
theorem Num.some {k : Nat} {s : Int × List Int} (h : Num k s) (hne : s ≠ (0, [])) : ∃ x, Sp.Mem x s := by
  obtain ⟨u, l⟩ := s
  rcases Int.lt_or_le u 1 with h1 | h1
  · have h0 := h.ok.1
    simp only at h0
    obtain rfl : u = 0 := by omega
    cases l with
    | nil => exact absurd rfl hne
    | cons z r => exact ⟨z, .inr (by simp)⟩
  · exact ⟨u, .inl ⟨h1, Int.le_refl _⟩⟩
theorem union_ne {k l : Nat} {s t : Int × List Int} (hs : Num k s) (ht : Num l t) (hne : s ≠ (0, [])) : Sp.unionF s t ≠ (0, []) := fun e => by
  obtain ⟨x, hx⟩ := hs.some hne
  have := (hs.mem_union ht x).mpr (.inl hx)
  rw [e] at this
  exact mem_nil this
theorem num_count {k : Nat} {s : Int × List Int} (h : Num k s) : s.1 + (s.2.length : Int) < 1 ↔ s = (0, []) := by
  have h0 := h.ok.1
  constructor
  · intro hc
    obtain ⟨u, l⟩ := s
    simp only at hc h0
    have : l = [] := List.eq_nil_of_length_eq_zero (by omega)
    subst this
    simp at hc
    rw [show u = 0 by omega]
  · rintro rfl; simp
/-- Rows that may be, each with no more than k beyond a hole. -/
structure GK (k : Nat) (m : Mat) : Prop where
  up : RisingM m
  row : ∀ x ∈ m, rightL x.1.data.toList = true ∧ Num k x.2 ∧ x.2 ≠ (0, [])
theorem GK.nil (k : Nat) : GK k [] := ⟨(risingM_iff _).mpr List.Pairwise.nil, by simp⟩
theorem GK.more {k l : Nat} {m : Mat} (h : GK k m) (hl : k ≤ l) : GK l m := ⟨h.up, fun x hx => ⟨(h.row x hx).1, (h.row x hx).2.1.more hl, (h.row x hx).2.2⟩⟩
theorem GK.of {k : Nat} {m : Mat} (h : GK k m) (a : ByteArray) : Num k (mOf m a) := by
  by_cases hx : ∃ x ∈ m, x.1 = a
  · obtain ⟨x, hx, rfl⟩ := hx
    rw [mOf_mem h.up hx]; exact (h.row x hx).2.1
  · rw [mOf_none (fun x hx' e => hx ⟨x, hx', e⟩)]; exact Num.nil k
theorem GK.okS {k : Nat} {m : Mat} (h : GK k m) (hk : k ≤ 100000) : ∀ x ∈ m, OkS x.2 := fun x hx => (h.row x hx).2.1.okS hk
theorem GK.len {k : Nat} {m : Mat} (h : GK k m) : ∀ x ∈ m, x.2.2.length ≤ k := fun x hx => (h.row x hx).2.1.len
theorem GK.tail {k : Nat} {x : ByteArray × (Int × List Int)} {m : Mat} (h : GK k (x :: m)) : GK k m := ⟨h.up.tail, fun y hy => h.row y (by simp [hy])⟩
theorem mOf_merge {k l : Nat} : ∀ {xs ys : Mat}, GK k xs → GK l ys → ∀ a, mOf (mergeF xs ys) a = Sp.unionF (mOf xs a) (mOf ys a)
  | [], ys, _, hy, a => by rw [mergeF, mOf, (hy.of a).nil_union]
  | x :: xs, [], hx, _, a => by rw [mergeF_nil, show mOf ([] : Mat) a = (0, []) from rfl, (hx.of a).union_nil]
  | x :: xs, y :: ys, hx, hy, a => by
    have nx := (hx.row x (by simp)).2.1
    have ny := (hy.row y (by simp)).2.1
    rcases cmpId_three x.1 y.1 with c | c | c
    · rw [mergeF_lt (by omega)]
      by_cases ha : x.1 = a
      · subst ha
        rw [mOf_head, mOf_head, mOf_ahead hy.up (by omega), nx.union_nil]
      · rw [mOf_cons_ne ha, mOf_cons_ne ha, mOf_merge hx.tail hy a]
    · rw [mergeF_eq c]
      have e := (cmpId_zero _ _).mp c
      by_cases ha : x.1 = a
      · subst ha
        rw [mOf, if_pos rfl, mOf_head, e, mOf_head]
      · rw [mOf_cons_ne (x := (x.1, Sp.unionF x.2 y.2)) ha, mOf_cons_ne ha, mOf_cons_ne (show y.1 ≠ a by rw [← e]; exact ha), mOf_merge hx.tail hy.tail a]
    · rw [mergeF_gt (by omega)]
      have c' := cmpId_neg x.1 y.1
      by_cases ha : y.1 = a
      · subst ha
        rw [mOf_head, mOf_head, mOf_ahead hx.up (by omega), ny.nil_union]
      · rw [mOf_cons_ne ha, mOf_cons_ne (x := y) ha, mOf_merge hx hy.tail a]
  termination_by xs ys => xs.length + ys.length
theorem GK.merge {k l : Nat} {xs ys : Mat} (hx : GK k xs) (hy : GK l ys) : GK (k + l) (mergeF xs ys) := ⟨rising_merge hx.up hy.up, fun z hz => by
  rcases mem_merge xs ys hz with h | h | ⟨u, hu, v, hv, e, rfl⟩
  · exact ⟨(hx.row z h).1, (hx.row z h).2.1.more (by omega), (hx.row z h).2.2⟩
  · exact ⟨(hy.row z h).1, (hy.row z h).2.1.more (by omega), (hy.row z h).2.2⟩
  · exact ⟨(hx.row u hu).1, (hx.row u hu).2.1.union (hy.row v hv).2.1, union_ne (hx.row u hu).2.1 (hy.row v hv).2.1 (hx.row u hu).2.2⟩⟩
theorem GK.ext {k l : Nat} {xs ys : Mat} (hx : GK k xs) (hy : GK l ys) (h : ∀ a, mOf xs a = mOf ys a) : xs = ys := mat_ext hx.up hy.up (fun x hx' => (hx.row x hx').2.2) (fun y hy' => (hy.row y hy').2.2) h
/-- The event is known. -/
def MemM (a : ByteArray) (x : Int) (m : Mat) : Prop := Sp.Mem x (mOf m a)
theorem GK.sets {k l : Nat} {xs ys : Mat} (hx : GK k xs) (hy : GK l ys) (h : ∀ a x, MemM a x xs ↔ MemM a x ys) : xs = ys := hx.ext hy fun a => (hx.of a).ext (hy.of a) (h a)
theorem mem_union {k l : Nat} {xs ys : Mat} (hx : GK k xs) (hy : GK l ys) (a : ByteArray) (x : Int) : MemM a x (mergeF xs ys) ↔ MemM a x xs ∨ MemM a x ys := by
  unfold MemM
  rw [mOf_merge hx hy a]
  exact (hx.of a).mem_union (hy.of a) x
theorem union_swap {k l : Nat} {x y : Mat} (hx : GK k x) (hy : GK l y) : mergeF x y = mergeF y x := (hx.merge hy).sets (hy.merge hx) fun a n => by
  rw [mem_union hx hy, mem_union hy hx]; exact Or.comm
theorem union_three {j k l : Nat} {x y z : Mat} (hx : GK j x) (hy : GK k y) (hz : GK l z) : mergeF (mergeF x y) z = mergeF x (mergeF y z) := ((hx.merge hy).merge hz).sets (hx.merge (hy.merge hz)) fun a n => by
  rw [mem_union (hx.merge hy) hz, mem_union hx hy, mem_union hx (hy.merge hz), mem_union hy hz]; exact or_assoc
theorem union_self {k : Nat} {x : Mat} (hx : GK k x) : mergeF x x = x := (hx.merge hx).sets hx fun a n => by
  rw [mem_union hx hx]; exact or_self_iff
/-- Does the second know all that the first does? -/
def withinM (x y : Mat) : Bool := x.all fun r => Sp.withinF r.2 (mOf y r.1)
theorem withinM_iff {k l : Nat} {x y : Mat} (hx : GK k x) (hy : GK l y) : withinM x y = true ↔ ∀ a n, MemM a n x → MemM a n y := by
  unfold withinM
  rw [List.all_eq_true]
  constructor
  · intro h a n hn
    by_cases hr : ∃ r ∈ x, r.1 = a
    · obtain ⟨r, hr, rfl⟩ := hr
      have h1 := (Sp.within_mem (hy.of r.1).ok).mp (h r hr) n
      unfold MemM at hn ⊢
      rw [mOf_mem hx.up hr] at hn
      exact h1 hn
    · unfold MemM at hn
      rw [mOf_none (fun r hr' e => hr ⟨r, hr', e⟩)] at hn
      exact (mem_nil hn).elim
  · intro h r hr
    refine (Sp.within_mem (hy.of r.1).ok).mpr fun n hn => h r.1 n ?_
    unfold MemM
    rw [mOf_mem hx.up hr]
    exact hn
theorem within_both {k l : Nat} {x y : Mat} (hx : GK k x) (hy : GK l y) : x = y ↔ withinM x y = true ∧ withinM y x = true := by
  rw [withinM_iff hx hy, withinM_iff hy hx]
  constructor
  · rintro rfl; exact ⟨fun _ _ h => h, fun _ _ h => h⟩
  · rintro ⟨h1, h2⟩; exact hx.sets hy fun a n => ⟨h1 a n, h2 a n⟩
theorem num_right {k : Nat} {s : Int × List Int} (h : Num k s) (hk : k ≤ 4096) : Sp.rightF s.1 s.2 = true := by
  have hc : ∀ (l : List Int) (a : Int), l.Pairwise (· < ·) → (∀ z ∈ l, a < z ∧ z ≤ 1048576) → Sp.chainB a l = true := by
    intro l
    induction l with
    | nil => intro a _ _; rfl
    | cons z t ih =>
      intro a hs hb
      rw [List.pairwise_cons] at hs
      have h1 := hb z (by simp)
      unfold Sp.chainB
      rw [decide_eq_true (by omega), ih z hs.2 (fun y hy => ⟨hs.1 y hy, (hb y (by simp [hy])).2⟩)]
      rfl
  unfold Sp.rightF
  have h0 := h.ok.1
  have h2 := h.hi
  have h3 := h.len
  rw [decide_eq_true (by omega), hc s.2 (s.1 + 1) h.ok.2.1 (fun z hz => ⟨h.ok.2.2 z hz, h.top z (.inr hz)⟩)]
  rfl
theorem GK.right {k : Nat} {m : Mat} (h : GK k m) (hk : k ≤ 4096) : rightM m = true := by
  rw [rightM_iff]
  refine ⟨h.up, fun x hx => ⟨(h.row x hx).1, num_right (h.row x hx).2.1 hk, fun e => ?_⟩⟩
  exact (h.row x hx).2.2 ((num_count (h.row x hx).2.1).mp (by omega))
theorem GK.drop {k : Nat} {m : Mat} (h : GK k m) (a : ByteArray) : GK k (dropM m a) := ⟨(risingM_iff _).mpr (((risingM_iff _).mp h.up).filter _), fun x hx => h.row x (List.mem_filter.mp hx).1⟩
theorem GK.filter {k : Nat} {m : Mat} (h : GK k m) (p : ByteArray × (Int × List Int) → Bool) : GK k (m.filter p) := ⟨(risingM_iff _).mpr (((risingM_iff _).mp h.up).filter _), fun x hx => h.row x (List.mem_filter.mp hx).1⟩
theorem mOf_drop (m : Mat) (a b : ByteArray) : mOf (dropM m a) b = if b = a then (0, []) else mOf m b := by
  induction m with
  | nil => simp [dropM, mOf]
  | cons x r ih =>
    unfold dropM at ih ⊢
    rw [List.filter_cons]
    by_cases e : x.1 = a
    · rw [if_neg (by simpa using e), ih, mOf]
      by_cases e2 : b = a
      · rw [if_pos e2, if_pos e2]
      · rw [if_neg e2, if_neg e2, if_neg (fun h => e2 (h.symm.trans e))]
    · rw [if_pos (by simpa using e), mOf, ih, mOf]
      by_cases e2 : x.1 = b
      · rw [if_pos e2, if_pos e2, if_neg (fun h => e (e2.trans h))]
      · rw [if_neg e2, if_neg e2]
/-- One's numbers are just these. -/
def putK (m : Mat) (a : ByteArray) (s : Int × List Int) : Mat := if s = (0, []) then dropM m a else mergeF (dropM m a) [(a, s)]
theorem gk_one {k : Nat} {a : ByteArray} {s : Int × List Int} (ha : rightL a.data.toList = true) (hs : Num k s) (hne : s ≠ (0, [])) : GK k [(a, s)] := ⟨(risingM_iff _).mpr (List.pairwise_singleton _ _), fun x hx => by simp at hx; subst hx; exact ⟨ha, hs, hne⟩⟩
theorem GK.put {k l : Nat} {m : Mat} (h : GK k m) {a : ByteArray} {s : Int × List Int} (ha : rightL a.data.toList = true) (hs : Num l s) (hl : k ≤ l) : GK l (putK m a s) ∧ ∀ b, mOf (putK m a s) b = if b = a then s else mOf m b := by
  unfold putK
  by_cases e : s = (0, [])
  · rw [if_pos e]
    refine ⟨(h.drop a).more hl, fun b => ?_⟩
    rw [mOf_drop, e]
  · rw [if_neg e]
    have h1 := gk_one ha hs e
    have h2 := (h.drop a).merge h1
    have h3 : ∀ b, mOf (mergeF (dropM m a) [(a, s)]) b = if b = a then s else mOf m b := fun b => by
      rw [mOf_merge (h.drop a) h1, mOf_drop]
      by_cases e2 : b = a
      · subst e2
        rw [if_pos rfl, if_pos rfl, mOf_head (b, s) [], hs.nil_union]
      · rw [if_neg e2, if_neg e2, mOf_cons_ne (x := (a, s)) (fun h => e2 h.symm), show mOf ([] : Mat) b = (0, []) from rfl, (h.of b).union_nil]
    refine ⟨⟨h2.up, fun x hx => ⟨(h2.row x hx).1, ?_, (h2.row x hx).2.2⟩⟩, h3⟩
    have h4 := h3 x.1
    rw [mOf_mem h2.up hx] at h4
    rw [h4]
    split
    · exact hs
    · exact (h.of x.1).more hl
theorem putK_eq {k l j : Nat} {m r : Mat} (h : GK k m) {a : ByteArray} {s : Int × List Int} (ha : rightL a.data.toList = true) (hs : Num l s) (hl : k ≤ l) (hr : GK j r) (hb : ∀ b, mOf r b = if b = a then s else mOf m b) : r = putK m a s :=
  hr.ext (h.put ha hs hl).1 fun b => (hb b).trans ((h.put ha hs hl).2 b).symm
/-- One Row put in its place. -/
theorem sunk_good {k : Nat} {a : ByteArray} {v : Int × List Int} {pre post : Mat} (h : GK k (pre ++ post)) (ha : rightL a.data.toList = true) (hv : Num k v) (hne : v ≠ (0, [])) (hpost : ∀ y ∈ post, 0 < cmpId y.1 a) (hpre : ∀ y ∈ pre, cmpId y.1 a < 0) : GK k (pre ++ (a, v) :: post) := by
  have hr := List.pairwise_append.mp ((risingM_iff _).mp h.up)
  refine ⟨(risingM_iff _).mpr (List.pairwise_append.mpr ⟨hr.1, List.pairwise_cons.mpr ⟨fun y hy => ?_, hr.2.1⟩, fun x hx y hy => ?_⟩), fun x hx => ?_⟩
  · have := hpost y hy; have := cmpId_neg y.1 a; simp only; omega
  · rcases List.mem_cons.mp hy with rfl | hy
    · exact hpre x hx
    · exact hr.2.2 x hx y hy
  · rcases List.mem_append.mp hx with hx | hx
    · exact h.row x (by simp [hx])
    · rcases List.mem_cons.mp hx with rfl | hx
      · exact ⟨ha, hv, hne⟩
      · exact h.row x (by simp [hx])
theorem mOf_sunk {a : ByteArray} {v : Int × List Int} {post : Mat} : ∀ {pre : Mat}, (∀ y ∈ pre, y.1 ≠ a) → ∀ b, mOf (pre ++ (a, v) :: post) b = if b = a then v else mOf (pre ++ post) b
  | [], _, b => by
    rw [List.nil_append, mOf]
    by_cases e : a = b
    · rw [if_pos e, if_pos e.symm]
    · rw [if_neg e, if_neg (fun h => e h.symm)]; rfl
  | x :: pre, h, b => by
    rw [List.cons_append, mOf, mOf_sunk (fun y hy => h y (by simp [hy])) b, List.cons_append]
    by_cases e : x.1 = b
    · rw [if_pos e, if_neg (fun e2 => h x (by simp) (e.trans e2)), mOf, if_pos e]
    · rw [if_neg e]
      by_cases e2 : b = a
      · rw [if_pos e2, if_pos e2]
      · rw [if_neg e2, if_neg e2, mOf, if_neg e]
end Go.Proofs.Ytpaiigminmakgaa

/- know.Within, Firsts and From. -/
namespace Go.Proofs.Ytpaiigminmakgaa
open Go.RowKit

theorem all_take_m {p : ByteArray × (Int × List Int) → Bool} {m : Mat} {k : Nat} {x : ByteArray × (Int × List Int)} (h : m[k]? = some x) : (m.take (k + 1)).all p = ((m.take k).all p && p x) := by
  rw [takeM h]; simp
/-- How far each is without a hole. -/
def firstsF (m : Mat) : List At := m.filterMap fun x => if 0 < x.2.1 then some (x.1, x.2.1) else none
theorem firsts_step {m : Mat} {k : Nat} {x : ByteArray × (Int × List Int)} (h : m[k]? = some x) : firstsF (m.take (k + 1)) = firstsF (m.take k) ++ (if 0 < x.2.1 then [(x.1, x.2.1)] else []) := by
  rw [takeM h]
  unfold firstsF
  rw [List.filterMap_append]
  congr 1
  by_cases h0 : 0 < x.2.1 <;> simp [h0]
theorem firsts_len (m : Mat) : (firstsF m).length ≤ m.length := List.length_filterMap_le _ _
end Go.Proofs.Ytpaiigminmakgaa

/- SpanHoles: the walk. -/
namespace Go.Proofs.Ytpaiigminmakgaa.Sp
open Go.RowKit

def holesF (s : Int × List Int) : Nat → Nat
  | 0 => 0
  | k + 1 => holesF s k + if hasOf s.1 s.2 (k + 1) then 0 else 1
def membF (s : Int × List Int) : Nat → Nat
  | 0 => 0
  | k + 1 => membF s k + if hasOf s.1 s.2 (k + 1) then 1 else 0
theorem holes_memb (s : Int × List Int) : ∀ k, holesF s k + membF s k = k
  | 0 => rfl
  | k + 1 => by
    have := holes_memb s k
    unfold holesF membF
    split <;> omega

def upL (k : Nat) : List Int := (List.range k).map (fun j : Nat => (j : Int) + 1)
theorem upL_succ (k : Nat) : upL (k + 1) = upL k ++ [(k : Int) + 1] := by unfold upL; rw [List.range_succ, List.map_append]; rfl
theorem upL_mem (k : Nat) (x : Int) : x ∈ upL k ↔ 1 ≤ x ∧ x ≤ k := by
  unfold upL
  simp only [List.mem_map, List.mem_range]
  constructor
  · rintro ⟨j, hj, rfl⟩; omega
  · rintro ⟨h1, h2⟩; exact ⟨(x - 1).toNat, by omega, by omega⟩
theorem upL_sorted (k : Nat) : (upL k).Pairwise (· < ·) := by
  induction k with
  | zero => simp [upL]
  | succ k ih =>
    rw [upL_succ, List.pairwise_append]
    refine ⟨ih, by simp, fun a ha b hb => ?_⟩
    rw [upL_mem] at ha
    simp only [List.mem_singleton] at hb
    omega
theorem memb_len (s : Int × List Int) (k : Nat) : membF s k = ((upL k).filter (fun x => hasOf s.1 s.2 x)).length := by
  induction k with
  | zero => rfl
  | succ k ih =>
    rw [upL_succ, List.filter_append, List.length_append, ← ih]
    show membF s k + (if hasOf s.1 s.2 ((k : Int) + 1) then 1 else 0) = _
    by_cases h : hasOf s.1 s.2 ((k : Int) + 1) = true
    · simp [h]
    · simp [h]

theorem memb_count {s : Int × List Int} (h : Ok s) (k : Nat) (hk : topOf s.1 s.2 ≤ k) : (membF s k : Int) = s.1 + s.2.length := by
  have h0 := h.1
  have he : (upL k).filter (fun x => hasOf s.1 s.2 x) = upL s.1.toNat ++ s.2 := by
    refine sorted_ext ((upL_sorted k).filter _) ?_ fun x => ?_
    · rw [List.pairwise_append]
      refine ⟨upL_sorted _, h.2.1, fun a ha b hb => ?_⟩
      rw [upL_mem] at ha
      have := h.2.2 b hb
      omega
    · rw [List.mem_filter, upL_mem, has_mem h, List.mem_append, upL_mem]
      unfold Mem
      constructor
      · rintro ⟨_, h2 | h2⟩
        · exact .inl ⟨h2.1, by omega⟩
        · exact .inr h2
      · rintro (h2 | h2)
        · have := top_ge h
          exact ⟨⟨h2.1, by omega⟩, .inl ⟨h2.1, by omega⟩⟩
        · have h3 := le_top (u := s.1) h.2.1 h2
          have h4 := h.2.2 x h2
          exact ⟨⟨by omega, by omega⟩, .inr h2⟩
  rw [memb_len, he, List.length_append]
  have : (upL s.1.toNat).length = s.1.toNat := by unfold upL; simp
  rw [this]
  omega

theorem holes_end {s : Int × List Int} (h : Ok s) (k : Nat) (hk : topOf s.1 s.2 = k) : (holesF s k : Int) = topOf s.1 s.2 - (s.1 + s.2.length) := by
  have h1 := holes_memb s k
  have h2 := memb_count h k (by omega)
  omega

theorem len_zero {s : Int × List Int} (h : Ok s) (k : Nat) (hk : topOf s.1 s.2 = k) : (((s.2.length : Int) == 0) == ((holesF s k : Int) == 0)) = true := by
  have he := holes_end h k hk
  rcases e : s.2 with _ | ⟨z, t⟩
  · have : holesF s k = 0 := by rw [e] at he; simp [topOf] at he; omega
    simp [this]
  · have hne : s.2 ≠ [] := by simp [e]
    have hl := sorted_len s.2 (s.1 + 1) (topOf s.1 s.2) h.2.1 (fun y hy => ⟨h.2.2 y hy, le_top h.2.1 hy⟩) (by have := h.2.2 _ (top_mem (u := s.1) hne); omega)
    have : 1 ≤ (holesF s k : Int) := by omega
    have h2 : ((holesF s k : Int) == 0) = false := by simp; omega
    rw [h2]
    simp
    omega

theorem first_small {s : Int × List Int} (h : Small s) : firstU s.1 = s.1 := by have := h.1.1; have := h.2.2.1; unfold firstU; omega
theorem first_within {s : Int × List Int} : withinF (s.1, []) s = true := by unfold withinF; simp
theorem has_next {s : Int × List Int} (h : Ok s) : hasOf s.1 s.2 (s.1 + 1) = false := by
  have := not_next h
  rw [← has_mem h] at this
  simpa using this

end Go.Proofs.Ytpaiigminmakgaa.Sp

/- The library's Grow of no slice, its Concat of one, and span.Add of a number that can't be: a copy. -/
namespace Go.Proofs.Ytpaiigminmakgaa.Sp
open Go.RowKit

/-- A row of the call's own, empty, with room. -/
def EmptyRow (w : World) (e : Ending) (w' : World) : Prop := ∃ A c, e = .returned (.slice A 0 c) ∧ w'.ownsRow w.heap.size 3 1 (.slice A 0 c) 0 (([] : List Int).map (.int .i64)) ∧ Below w.heap.size w w'

/-- A copy in a row of the call's own. -/
def CopyRow (zs : List Int) (w : World) (e : Ending) (w' : World) : Prop := ∃ A c, e = .returned (.slice A zs.length c) ∧ w'.ownsRow w.heap.size 3 1 (.slice A zs.length c) zs.length (zs.map (.int .i64)) ∧ Below w.heap.size w w'

end Go.Proofs.Ytpaiigminmakgaa.Sp

/- span.Add of a number that can't be: a copy. -/
namespace Go.Proofs.Ytpaiigminmakgaa.Sp
open Go.RowKit

def addF (s : Int × List Int) (m : Int) : Int × List Int := if m < 1 ∨ 1048576 < m then s else unionF s (0, [m])

theorem addF_ref {s : Int × List Int} (h : Ok s) (hb : s.1 ≤ 1048576) (m : Int) : addF s m = refAddF s m := by
  unfold addF
  split
  · rename_i hm
    unfold refAddF
    rw [if_pos (by rcases hm with hm | hm; exact .inl hm; exact .inr (.inl hm))]
  · exact add_eq h hb (by omega) (by omega)
end Go.Proofs.Ytpaiigminmakgaa.Sp

/- know.Add. -/
namespace Go.Proofs.Ytpaiigminmakgaa
open Go.RowKit

/-- One number alone. -/
def oneS (n : Int) : Int × List Int := Sp.addF (0, []) n
theorem oneS_num (n : Int) : Num 1 (oneS n) ∧ ∀ x, Sp.Mem x (oneS n) ↔ x = n ∧ 1 ≤ n ∧ n ≤ 1048576 := by
  unfold oneS Sp.addF
  split
  · rename_i h
    refine ⟨Num.nil 1, fun x => ⟨fun h => (mem_nil h).elim, fun h2 => by omega⟩⟩
  · rename_i h
    obtain ⟨a, b⟩ := Sp.addF_ok ok_nil (by simp) (m := n) (by omega)
    have hb : ∀ x, Sp.Mem x (Sp.unionF (0, []) (0, [n])) ↔ x = n := fun x => by
      rw [b x]
      exact ⟨fun h => h.elim (fun h => (mem_nil h).elim) id, .inr⟩
    refine ⟨⟨a, fun x hx => by rw [(hb x).mp hx]; omega, by have := union_len (0, []) (0, [n]); simpa using this⟩, fun x => ?_⟩
    rw [hb x]
    exact ⟨fun e => ⟨e, by omega, by omega⟩, fun e => e.1⟩
theorem oneS_ne {n : Int} (h1 : 1 ≤ n) (h2 : n ≤ 1048576) : oneS n ≠ (0, []) := fun e => by
  have := ((oneS_num n).2 n).mpr ⟨rfl, h1, h2⟩
  rw [e] at this
  exact mem_nil this
/-- One event more. -/
def addK (m : Mat) (a : ByteArray) (n : Int) : Mat := if rightL a.data.toList = true ∧ oneS n ≠ (0, []) then mergeF m [(a, oneS n)] else m
theorem one_mat {w : World} {a : ByteArray} {u : Int} {A : Option Addr} {c : Nat} {v : List Int} (hv : Sp.IntsAt w w.heap.size A v.length v) (hc : v.length ≤ c) :
    MatAt (w.alloc (.cells #[.string a, .int .i64 u, .slice A v.length c] 98)) (w.heap.size + 1) (some ⟨w.heap.size, 0, none⟩) 1 [(a, (u, v))] :=
  ⟨[⟨a, u, A, c, v⟩], rfl, one_row rowM (heap_alloc_new w _), fun r hr => by
    simp at hr
    subst hr
    exact ⟨(hv.keep ((Below.refl _ _).alloc (Nat.le_refl _) _)).more (by omega), hc⟩⟩
end Go.Proofs.Ytpaiigminmakgaa

/- The law's own little check 'told' of layer 4. -/
namespace Go.Proofs.Ytpaiigminmakgaa
open Go.RowKit

def z0 : ByteArray := ByteArray.mk #[48]
def tK1 : Mat := [(z0, (1, []))]
def tK : Mat := [(z0, (1, [3]))]
def tL : Mat := [(z0, (3, []))]
theorem one_1 : oneS 1 = (1, []) := by
  have h : Sp.mergeF [] [1] = [1] := by unfold Sp.mergeF; simp
  unfold oneS Sp.addF Sp.unionF
  simp only [h]
  decide
theorem one_2 : oneS 2 = (0, [2]) := by
  have h : Sp.mergeF [] [2] = [2] := by unfold Sp.mergeF; simp
  unfold oneS Sp.addF Sp.unionF
  simp only [h]
  decide
theorem one_3 : oneS 3 = (0, [3]) := by
  have h : Sp.mergeF [] [3] = [3] := by unfold Sp.mergeF; simp
  unfold oneS Sp.addF Sp.unionF
  simp only [h]
  decide
theorem union_13 : Sp.unionF (1, []) (0, [3]) = (1, [3]) := by
  have h : Sp.mergeF [] [3] = [3] := by unfold Sp.mergeF; simp
  unfold Sp.unionF
  simp only [h]
  decide
theorem union_132 : Sp.unionF (1, [3]) (0, [2]) = (3, []) := by
  have h : Sp.mergeF [3] [2] = [2, 3] := by unfold Sp.mergeF; simp
  unfold Sp.unionF
  simp only [h]
  decide
theorem z0_right : rightL z0.data.toList = true := by decide
theorem kt_1 : addK [] z0 1 = tK1 := by
  unfold addK
  rw [if_pos ⟨z0_right, oneS_ne (by decide) (by decide)⟩, one_1, mergeF]
  rfl
theorem kt_2 : addK tK1 z0 3 = tK := by
  unfold addK tK1
  rw [if_pos ⟨z0_right, oneS_ne (by decide) (by decide)⟩, one_3, mergeF_eq (by exact cmpId_self _), mergeF, union_13]
  rfl
theorem kt_3 : addK tK z0 2 = tL := by
  unfold addK tK
  rw [if_pos ⟨z0_right, oneS_ne (by decide) (by decide)⟩, one_2, mergeF_eq (by exact cmpId_self _), mergeF, union_132]
  rfl
theorem num_1 : Num 1 (1, [3]) := ⟨⟨by decide, by simp, by simp⟩, fun x hx => by rcases hx with h | h <;> simp at h <;> omega, by simp⟩
theorem num_3 : Num 1 (3, []) := ⟨⟨by decide, by simp, by simp⟩, fun x hx => by rcases hx with h | h <;> simp at h <;> omega, by simp⟩
theorem num_0 : Num 1 (1, []) := ⟨⟨by decide, by simp, by simp⟩, fun x hx => by rcases hx with h | h <;> simp at h <;> omega, by simp⟩
theorem gk_K1 : GK 1 tK1 := gk_one z0_right num_0 (by simp)
theorem gk_K : GK 1 tK := gk_one z0_right num_1 (by simp)
theorem gk_L : GK 1 tL := gk_one z0_right num_3 (by simp)
theorem kt_has3 : Sp.hasOf (mOf tK z0).1 (mOf tK z0).2 3 = true := by decide
theorem kt_has2 : Sp.hasOf (mOf tK z0).1 (mOf tK z0).2 2 = false := by decide
theorem kt_win : withinM tK tL = true := by decide
theorem kt_win' : withinM tL tK = false := by decide
theorem kt_firsts : firstsF tL = [(z0, 3)] := by decide
theorem kt_count : countM tK = 2 := by decide
theorem kt_ex : extrasM tK = 1 := by decide
theorem kt_ex0 : extrasM tL = 0 := by decide
end Go.Proofs.Ytpaiigminmakgaa

/- The reference's Of, Has, Drop, Count and Extras of a Know. -/
namespace Go.Proofs.Ytpaiigminmakgaa
open Go.RowKit

theorem mOf_step {m : Mat} {k : Nat} {x : ByteArray × (Int × List Int)} {a : ByteArray} (h : m[k]? = some x) (he : x.1 ≠ a) : mOf (m.drop k) a = mOf (m.drop (k + 1)) a := by
  obtain ⟨hk, rfl⟩ := List.getElem?_eq_some_iff.mp h
  rw [List.drop_eq_getElem_cons hk, mOf, if_neg he]
theorem mOf_hit {m : Mat} {k : Nat} {x : ByteArray × (Int × List Int)} {a : ByteArray} (h : m[k]? = some x) (he : x.1 = a) : mOf (m.drop k) a = x.2 := by
  obtain ⟨hk, rfl⟩ := List.getElem?_eq_some_iff.mp h
  rw [List.drop_eq_getElem_cons hk, mOf, if_pos he]
set_option maxRecDepth 100000 in
set_option maxHeartbeats 2000000 in
theorem rofM_any (A : Option Addr) (n c : Nat) (m : Mat) (a : ByteArray) (B : Nat) (w : World) (hB : B ≤ w.heap.size) (hz : MatAt w B A n m) (hn : n ≤ 1000000) :
    Calls Try.prog 72 #[.slice A n c, .string a] w (SeeS B (mOf m a) w) := by
  have HL := Lib.hid hz.len
  have HZ := Lib.hid hz
  clear hz
  obtain ⟨v, hv⟩ : ∃ v, mOf m a = v := ⟨_, rfl⟩
  have HV0 : Hid (mOf (m.drop 0) a = v) := hv
  rw [hv]
  clear hv
  go_enter Try.func72, Try.ntmps72
  go_wp2
  go_loop [5] (fun i => ∃ k : Nat, k ≤ n ∧ i = .int .i64 k ∧ Hid (mOf (m.drop k) a = v)) (fun i => n - (intOf i).toNat)
  case atStart => exact ⟨0, by omega, rfl, HV0⟩
  case round =>
    clear HV0
    obtain ⟨k, hk, rfl, HO⟩ := hrel
    by_cases hlt : k < n
    · obtain ⟨blk, off, r, rfl, hbB, hmk, e0, e1, e2, hf⟩ := HZ.out.get (Below.refl _ _) hlt
      have hi1 : (k : Int) < (n : Int) := by omega
      have hbl : blk < w.heap.size := by omega
      by_cases he : r.id = a
      · have HR : Hid ((r.u, r.v) = v) := (mOf_hit hmk he).symm.trans HO.out
        have hq := beq_yes he
        have HF := Lib.hid hf
        obtain ⟨id, u, Ar, cr, vv⟩ := r
        simp only at e0 e1 e2 hq HR
        clear he hmk hf
        go_wp2
        refine bodyPost_ret (v := .agg #[.int .i64 u, .slice Ar vv.length cr]) ?_ rfl ?_
        · simp [results, Try.results72, go_sem]
        · unfold SeeS
          rw [← HR.out]
          exact ⟨Ar, cr, rfl, HF.out.cap, HF.out.vec.keep ((Below.refl _ _).alloc hB _), (Below.refl _ _).alloc (Nat.le_refl _) _⟩
      · have HN : Hid (mOf (m.drop (k + 1)) a = v) := (mOf_step hmk he).symm.trans HO.out
        have hq := beq_no he
        obtain ⟨id, u, Ar, cr, vv⟩ := r
        simp only at e0 e1 e2 hq
        clear he hmk hf
        go_wp2
        go_round
        case rel => exact ⟨k + 1, by omega, by go_num, HN⟩
        case measure => simp [intOf]; omega
    · have HR : Hid (v = (0, [])) := by show _ = _; rw [← HO.out, List.drop_of_length_le (by have := HL.out; omega)]; rfl
      go_wp2
      refine bodyPost_ret (v := .agg #[.int .i64 0, .slice none 0 0]) ?_ rfl ?_
      · simp [results, Try.results72, go_sem]
      · unfold SeeS
        rw [HR.out]
        exact ⟨none, 0, rfl, Nat.le_refl _, Sp.IntsAt.nil _ _ _, (Below.refl _ _).alloc (Nat.le_refl _) _⟩
set_option maxRecDepth 100000 in
set_option maxHeartbeats 1000000 in
theorem rhasM_any (A : Option Addr) (n c : Nat) (m : Mat) (a : ByteArray) (t : Int) (B : Nat) (w : World) (hB : B ≤ w.heap.size) (hz : MatAt w B A n m) (hn : n ≤ 1000000) (hl : (mOf m a).2.length ≤ 100000) :
    Calls Try.prog 54 #[.slice A n c, .string a, .int .i64 t] w fun e w' => e = .returned (.bool (Sp.refHasF (mOf m a) t)) ∧ Below w.heap.size w w' := by
  have HF := Lib.hid (rofM_any A n c m a B w hB hz hn)
  generalize mOf m a = s at *
  clear hz
  obtain ⟨u, v⟩ := s
  simp only at hl
  have HP : Hid (∀ w2 A2 c2, Sp.IntsAt w2 B A2 v.length v → B ≤ w2.heap.size → Calls Try.prog 71 #[.agg #[.int .i64 u, .slice A2 v.length c2], .int .i64 t] w2 fun e w' => e = .returned (.bool (Sp.refHasF (u, v) t)) ∧ Below w2.heap.size w2 w') := fun w2 A2 c2 h hb => Sp.refHas_any u A2 v.length c2 v t B w2 hb h (by omega)
  generalize Sp.refHasF (u, v) t = d at *
  go_enter Try.func54, Try.ntmps54
  go_wp2_with fail
  refine HF.out.mono ?_
  rintro e w1 ⟨A1, c1, rfl, hc1, hv, hb⟩
  dsimp only at hc1 hv ⊢
  have HQ := Lib.hid (HP.out w1 A1 c1 hv (Nat.le_trans hB hb.size))
  have HB := Lib.hid hb
  clear hv hb HF HP
  go_wp2_with fail
  refine HQ.out.mono ?_
  rintro e w2 ⟨rfl, hb⟩
  have HB2 := Lib.hid (HB.out.trans (hb.mono HB.out.size))
  clear hb HQ
  go_wp2
  go_ret
  exact ⟨rfl, HB2.out⟩
theorem apart_old {w w1 : World} {B B0 : Nat} {e : TypeId} {A : Option Addr} {n c : Nat} {rs : List Hd} {r : Hd} (h : OwnsH w B0 e A n c rs) (hf : Fine w1 B r) (hB : B ≤ B0) : Apart r (Value.ownBlock (.slice A n c)) := fun hn ad e1 e2 => by
  have h1 := (h.own.lt ad.block e2).1
  obtain ⟨b, off, e3, hlt, _⟩ := hf.vec.2 hn
  rw [e1] at e3
  injection e3 with e3
  subst e3
  simp only at h1 hlt
  omega
set_option maxRecDepth 100000 in
set_option maxHeartbeats 4000000 in
theorem rdropM_any (A : Option Addr) (n c : Nat) (m : Mat) (a : ByteArray) (B : Nat) (w : World) (hB : B ≤ w.heap.size) (hz : MatAt w B A n m) (hn : n ≤ 100000) :
    Calls Try.prog 64 #[.slice A n c, .string a] w (OwnMat 88 (dropM m a) w) := by
  have HL := Lib.hid hz.len
  have HZ := Lib.hid hz
  clear hz
  go_enter Try.func64, Try.ntmps64
  go_wp2
  go_loopw [5, 6] (fun v i wr => ∃ (k : Nat) (Av : Option Addr) (cv : Nat), k ≤ n ∧ i = .int .i64 k ∧ v = .slice Av (dropM (m.take k) a).length cv ∧ Hid (OwnsM wr w.heap.size 88 Av (dropM (m.take k) a).length cv (dropM (m.take k) a)) ∧ Hid (Below w.heap.size w wr)) (fun _ i _ => n - (intOf i).toNat)
  case atStart => exact ⟨0, none, 0, by omega, rfl, rfl, OwnsM.nil _ _ _, Below.refl _ _⟩
  case round =>
    obtain ⟨k, Av, cv, hk, rfl, rfl, HOM, HB⟩ := hrel
    by_cases hlt : k < n
    · obtain ⟨blk, off, r, rfl, hbB, hmk, e0, e1, e2, hf⟩ := HZ.out.get (HB.out.mono hB) hlt
      have HTS := Lib.hid (dropM_take a hmk)
      have hi1 : (k : Int) < (n : Int) := by omega
      have hdl : (dropM (m.take k) a).length ≤ 100000 := Nat.le_trans (dropM_len _ _) (by rw [List.length_take]; omega)
      have hsz := HB.out.size
      by_cases he : r.id = a
      · have HN : Hid (dropM (m.take (k + 1)) a = dropM (m.take k) a) := by show _ = _; rw [HTS.out, if_pos he, List.append_nil]
        have hq := beq_yes he
        obtain ⟨id, u, Ar, cr, v⟩ := r
        simp only at e0 e1 e2 hq
        clear hmk hf HTS he
        generalize dropM (m.take k) a = d at *
        go_wp2_with fail
        go_roundw
        case rel => exact ⟨k + 1, Av, cv, by omega, by go_num, by rw [HN.out], by rw [HN.out]; exact HOM, HB⟩
        case measure => simp [intOf]; omega
      · have HN : Hid (dropM (m.take (k + 1)) a = dropM (m.take k) a ++ [(r.id, (r.u, r.v))]) := by show _ = _; rw [HTS.out, if_neg he]
        have hq := beq_no he
        obtain ⟨rs, habs, hown⟩ := HOM.out
        have HAB := Lib.hid habs
        have hbw : Below wr.heap.size wr (wr.alloc (.cells #[.string r.id, .int .i64 r.u, .slice r.A r.v.length r.c] 88)) := (Below.refl _ _).alloc (Nat.le_refl _) _
        have HAP := Lib.hid (apart_old hown hf hB)
        have HO1 := Lib.hid (hown.below hbw)
        have HF1 := Lib.hid (((hf.more (Nat.le_trans hB hsz)).keep hbw).more hbw.size)
        have HB1 := Lib.hid (HB.out.trans (hbw.mono hsz))
        have HX1 : Hid (RowAt cellsH 3 (wr.alloc (.cells #[.string r.id, .int .i64 r.u, .slice r.A r.v.length r.c] 88)) (wr.heap.size + 1) (some ⟨wr.heap.size, 0, none⟩) 1 [r]) := one_row rowN (heap_alloc_new wr _)
        obtain ⟨id, u, Ar, cr, v⟩ := r
        simp only at e0 e1 e2 hq HB1 HO1 HN HX1 HF1 HAP
        clear hmk hf hbw HTS he hown habs HOM
        generalize dropM (m.take k) a = d at *
        go_wp2_with (at_builtin; refine wpList_append_row rowN (B := w.heap.size) (v := .slice Av d.length cv) (n := d.length) (zs := rs) (m := 1) (ys := [⟨id, u, Ar, cr, v⟩]) rfl _ _ rfl rfl HO1.out.own rfl HX1.out (by omega) HB1.out.size ?_; intro A3 c3 w3 hown3 hg3 hat3)
        have HO3 := Lib.hid (HO1.out.snoc HF1.out HAP.out hown3 hg3 hat3)
        have HB3 := Lib.hid (HB1.out.grown hg3 HB1.out.size (fun g e => (HO1.out.own.lt g e).1))
        clear hown3 hg3 hat3
        have HLn : Hid ((dropM (m.take (k + 1)) a).length = d.length + 1) := by show _ = _; rw [HN.out]; simp
        go_wp2_with fail
        go_roundw
        case rel => exact ⟨k + 1, A3, c3, by omega, by go_num, by rw [HLn.out], by rw [HLn.out, HN.out]; exact ⟨rs ++ [⟨id, u, Ar, cr, v⟩], by rw [absH_append, HAB.out]; rfl, HO3.out⟩, HB3⟩
        case measure => simp [intOf]; omega
    · obtain rfl : k = n := by omega
      have HT : Hid (m.take k = m) := List.take_of_length_le (by have := HL.out; omega)
      go_wp2
      go_ret
      rw [HT.out] at HOM ⊢
      exact ⟨Av, cv, rfl, HOM.out, HB.out⟩
end Go.Proofs.Ytpaiigminmakgaa
