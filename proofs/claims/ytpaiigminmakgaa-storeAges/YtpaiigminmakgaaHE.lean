/- Texts Vm Va Vb Vc Vd Ve Vf Vg Vh Vi Vj Vk Vl Vn Vo Vp Vq Vr, one behind the other. -/
import Derived.Test.YtpaiigminmakgaaHA
import GoSem.Claim
import Derived.Maps.AppendAt
import Derived.Deep.AppendLies
import Derived.Deep.RegionLaw
import Derived.Deep.RegionHeld3
import Derived.BigRegion
import Derived.Laws.StructEq
/- Plain mathematics of rows of ids and numbers: the order of ids, rising rows, how far one is. -/
namespace Go.Proofs.Ytpaiigminmakgaa

/-- The order of two ids. -/
def cmpId (a b : ByteArray) : Int := Lib.compareBytes a.data.toList b.data.toList
theorem cmpId_three (a b : ByteArray) : cmpId a b = -1 ∨ cmpId a b = 0 ∨ cmpId a b = 1 := cmp_three _ _
theorem cmpId_zero (a b : ByteArray) : cmpId a b = 0 ↔ a = b := by
  unfold cmpId
  rw [cmp_zero]
  constructor
  · intro h; exact ByteArray.ext (Array.ext' h)
  · rintro rfl; rfl
theorem cmpId_neg (a b : ByteArray) : cmpId b a = - cmpId a b := cmp_neg _ _
theorem cmpId_self (a : ByteArray) : cmpId a a = 0 := (cmpId_zero a a).mpr rfl
theorem cmpId_le (a b c : ByteArray) (h1 : cmpId a b ≤ 0) (h2 : cmpId b c ≤ 0) : cmpId a c ≤ 0 := cmp_trans _ _ _ h1 h2
theorem cmpId_lt (a b c : ByteArray) (h1 : cmpId a b < 0) (h2 : cmpId b c ≤ 0) : cmpId a c < 0 := by
  have h := cmpId_le a b c (by omega) h2
  rcases cmpId_three a c with e | e | e
  · omega
  · have := (cmpId_zero a c).mp e
    subst this
    have := cmpId_neg a b
    omega
  · omega
theorem cmpId_lt' (a b c : ByteArray) (h1 : cmpId a b ≤ 0) (h2 : cmpId b c < 0) : cmpId a c < 0 := by
  have h := cmpId_le a b c h1 (by omega)
  rcases cmpId_three a c with e | e | e
  · omega
  · have := (cmpId_zero a c).mp e
    subst this
    have := cmpId_neg a b
    omega
  · omega

abbrev At := ByteArray × Int
def atNil : At := (ByteArray.mk #[], 0)
/-- The ids rise, each stands once. -/
def Rising (zs : List At) : Prop := zs.Pairwise fun x y => cmpId x.1 y.1 < 0
/-- How far one is. -/
def ofF (zs : List At) (a : ByteArray) : Int := match zs with
  | [] => 0
  | x :: r => if x.1 = a then x.2 else ofF r a

theorem rising_lt {zs : List At} (hs : Rising zs) (i j : Nat) (hij : i < j) (hj : j < zs.length) : cmpId (zs.getD i atNil).1 (zs.getD j atNil).1 < 0 := by
  have := List.pairwise_iff_getElem.1 hs i j (by omega) hj hij
  simpa [List.getD_eq_getElem?_getD, List.getElem?_eq_getElem hj, List.getElem?_eq_getElem (show i < zs.length by omega)] using this
theorem ofF_none {zs : List At} {a : ByteArray} (h : ∀ x ∈ zs, x.1 ≠ a) : ofF zs a = 0 := by
  induction zs with
  | nil => rfl
  | cons x r ih => unfold ofF; rw [if_neg (h x (by simp))]; exact ih fun y hy => h y (by simp [hy])
theorem ofF_mem {zs : List At} {x : At} (hs : Rising zs) (h : x ∈ zs) : ofF zs x.1 = x.2 := by
  induction zs with
  | nil => simp at h
  | cons y r ih =>
    unfold ofF
    rcases List.mem_cons.mp h with rfl | h
    · rw [if_pos rfl]
    · have := (List.pairwise_cons.mp hs).1 x h
      rw [if_neg (fun e => by rw [e, cmpId_self] at this; omega)]
      exact ih (List.pairwise_cons.mp hs).2 h
theorem ofF_pos {zs : List At} {a : ByteArray} (h : ofF zs a ≠ 0) : ∃ x ∈ zs, x.1 = a := by
  induction zs with
  | nil => exact absurd rfl h
  | cons y r ih =>
    by_cases e : y.1 = a
    · exact ⟨y, by simp, e⟩
    · unfold ofF at h; rw [if_neg e] at h
      obtain ⟨x, hx, hxa⟩ := ih h
      exact ⟨x, by simp [hx], hxa⟩
theorem getD_mem {zs : List At} {k : Nat} (hk : k < zs.length) : zs.getD k atNil ∈ zs := by
  rw [List.getD_eq_getElem?_getD, List.getElem?_eq_getElem hk]; exact List.getElem_mem hk
theorem mem_getD {zs : List At} {x : At} (h : x ∈ zs) : ∃ k, k < zs.length ∧ zs.getD k atNil = x := by
  obtain ⟨k, hk, e⟩ := List.mem_iff_getElem.mp h
  exact ⟨k, hk, by rw [List.getD_eq_getElem?_getD, List.getElem?_eq_getElem hk]; exact e⟩

/-- What the binary search has found out: all below i lie ahead of a, all from j on don't. -/
def Parts (zs : List At) (a : ByteArray) (i j : Nat) : Prop := (∀ k, k < i → cmpId (zs.getD k atNil).1 a < 0) ∧ ∀ k, j ≤ k → k < zs.length → 0 ≤ cmpId (zs.getD k atNil).1 a
theorem parts_start (zs : List At) (a : ByteArray) : Parts zs a 0 zs.length := ⟨fun k hk => by omega, fun k hk hk2 => by omega⟩
theorem parts_lo {zs : List At} {a : ByteArray} {i j m : Nat} (hs : Rising zs) (h : Parts zs a i j) (hm : m < zs.length) (hc : cmpId (zs.getD m atNil).1 a < 0) : Parts zs a (m + 1) j := by
  refine ⟨fun k hk => ?_, h.2⟩
  rcases Nat.lt_or_ge k m with h1 | h1
  · exact cmpId_lt _ _ _ (rising_lt hs k m h1 hm) (by omega)
  · rw [show k = m by omega]; exact hc
theorem parts_hi {zs : List At} {a : ByteArray} {i j m : Nat} (hs : Rising zs) (h : Parts zs a i j) (hc : ¬ cmpId (zs.getD m atNil).1 a < 0) : Parts zs a i m := by
  refine ⟨h.1, fun k hk hk2 => ?_⟩
  rcases Nat.lt_or_ge m k with h1 | h1
  · have h2 := rising_lt hs m k h1 hk2
    rcases cmpId_three (zs.getD k atNil).1 a with e | e | e
    · have := cmpId_lt _ _ _ h2 (show cmpId (zs.getD k atNil).1 a ≤ 0 by omega); omega
    · omega
    · omega
  · rw [show k = m by omega]; omega
theorem parts_none {zs : List At} {a : ByteArray} {i : Nat} (hs : Rising zs) (h : Parts zs a i i) (hi : ¬ (i < zs.length ∧ cmpId (zs.getD i atNil).1 a = 0)) : ∀ x ∈ zs, x.1 ≠ a := by
  rintro x hx rfl
  obtain ⟨k, hk, e⟩ := mem_getD hx
  rcases Nat.lt_trichotomy k i with h1 | h1 | h1
  · have := h.1 k h1; rw [e, cmpId_self] at this; omega
  · subst h1; exact hi ⟨hk, by rw [e, cmpId_self]⟩
  · have h2 := h.2 i (Nat.le_refl _) (by omega)
    have h3 := rising_lt hs i k h1 hk
    rw [e] at h3
    omega

/-- What the binary search answers: the place, where there is one. -/
def Found (a : ByteArray) (zs : List At) (e : Ending) : Prop :=
  (∃ k : Nat, k < zs.length ∧ (zs.getD k atNil).1 = a ∧ e = .returned (.tuple #[.int .i64 k, .bool true])) ∨ ((∀ x ∈ zs, x.1 ≠ a) ∧ ∃ k : Nat, e = .returned (.tuple #[.int .i64 k, .bool false]))
end Go.Proofs.Ytpaiigminmakgaa

/- Rows of ids and numbers (Vec): how they lie in memory; append onto a row of the call's own. -/
namespace Go.Proofs.Ytpaiigminmakgaa
open Go.RowKit

def atCells (zs : List At) : List Value := zs.flatMap fun x => [.string x.1, .int .i64 x.2]

/-- In w the slice (A, n) holds the ids and numbers zs, in a block below B. -/
def VecAt (w : World) (B : Nat) (A : Option Addr) (n : Nat) (zs : List At) : Prop :=
  zs.length = n ∧ (0 < n → ∃ b off, A = some ⟨b, off, none⟩ ∧ b < B ∧ ∀ k, k < n → w.cell? ⟨b, off + k * 2, none⟩ = some (.string (zs.getD k atNil).1) ∧ w.cell? ⟨b, off + k * 2 + 1, none⟩ = some (.int .i64 (zs.getD k atNil).2))

theorem VecAt.nil (w : World) (B : Nat) (A : Option Addr) : VecAt w B A 0 [] := ⟨rfl, fun h => absurd h (by omega)⟩
theorem VecAt.hold {w w' : World} {B : Nat} {A : Option Addr} {n : Nat} {zs : List At} (h : VecAt w B A n zs) (hk : ∀ b o, b < B → w'.cell? ⟨b, o, none⟩ = w.cell? ⟨b, o, none⟩) : VecAt w' B A n zs :=
  ⟨h.1, fun hn => by
    obtain ⟨b, off, e, hlt, hc⟩ := h.2 hn
    exact ⟨b, off, e, hlt, fun k hk' => ⟨(hk b _ hlt).trans (hc k hk').1, (hk b _ hlt).trans (hc k hk').2⟩⟩⟩
theorem VecAt.keep {w w' : World} {B : Nat} {A : Option Addr} {n : Nat} {zs : List At} (h : VecAt w B A n zs) (hb : Below B w w') : VecAt w' B A n zs :=
  h.hold fun b o hlt => hb.cell (p := ⟨b, o, none⟩) hlt
theorem VecAt.more {w : World} {B B' : Nat} {A : Option Addr} {n : Nat} {zs : List At} (h : VecAt w B A n zs) (hB : B ≤ B') : VecAt w B' A n zs :=
  ⟨h.1, fun hn => by
    obtain ⟨b, off, e, hlt, hc⟩ := h.2 hn
    exact ⟨b, off, e, by omega, hc⟩⟩
theorem VecAt.drewN {w : World} {B : Nat} {A : Option Addr} {n : Nat} {zs : List At} (h : VecAt w B A n zs) (k : Nat) : VecAt (w.drewN k) B A n zs := h
theorem VecAt.drew {w : World} {B : Nat} {A : Option Addr} {n : Nat} {zs : List At} (h : VecAt w B A n zs) : VecAt w.drew B A n zs := h
theorem VecAt.alloc {w : World} {B : Nat} {A : Option Addr} {n : Nat} {zs : List At} (h : VecAt w B A n zs) (hB : B ≤ w.heap.size) (o : Obj) : VecAt (w.alloc o) B A n zs :=
  h.hold fun b k hlt => World.cell?_alloc_lt w o ⟨b, k, none⟩ (by show b < w.heap.size; omega)
theorem VecAt.grown {w w' : World} {B : Nat} {A : Option Addr} {n : Nat} {zs : List At} {row : Option Nat} (h : VecAt w B A n zs) (hg : w.grownBy w' row) (hB : B ≤ w.heap.size) (hr : ∀ g, row = some g → B ≤ g) : VecAt w' B A n zs :=
  h.hold fun b k hlt => World.cell?_of_block (a := ⟨b, k, none⟩) (hg.block b (by omega) (fun e => by have := hr _ e.symm; omega))
/-- The row behind a cut. -/
theorem VecAt.tail {w : World} {B : Nat} {b off n : Nat} {zs : List At} (h : VecAt w B (some ⟨b, off, none⟩) (n + 1) zs) : VecAt w B (some ⟨b, off + 2, none⟩) n (zs.drop 1) := by
  refine ⟨by rw [List.length_drop, h.1]; rfl, fun hn => ?_⟩
  obtain ⟨b', off', e, hlt, hc⟩ := h.2 (by omega)
  injection e with e
  injection e with e1 e2
  subst e1 e2
  refine ⟨b, off + 2, rfl, hlt, fun k hk => ?_⟩
  have := hc (k + 1) (by omega)
  rw [show off + (k + 1) * 2 = off + 2 + k * 2 by omega] at this
  simpa [List.getD_eq_getElem?_getD, List.getElem?_drop, Nat.add_comm 1 k] using this

theorem atCells_length (zs : List At) : (atCells zs).length = zs.length * 2 := by
  induction zs with
  | nil => rfl
  | cons x r ih => simp only [atCells, List.flatMap_cons, List.length_append, List.length_cons, List.length_nil] at ih ⊢; omega
theorem atCells_append (xs ys : List At) : atCells (xs ++ ys) = atCells xs ++ atCells ys := by simp [atCells]
theorem atCells_get (zs : List At) : ∀ k, k < zs.length → (atCells zs)[k * 2]? = some (.string (zs.getD k atNil).1) ∧ (atCells zs)[k * 2 + 1]? = some (.int .i64 (zs.getD k atNil).2) := by
  induction zs with
  | nil => intro k hk; simp at hk
  | cons x r ih =>
    intro k hk
    cases k with
    | zero => exact ⟨rfl, rfl⟩
    | succ k =>
      have := ih k (by simpa using hk)
      rw [show (k + 1) * 2 = k * 2 + 2 by omega]
      simpa [atCells] using this
theorem atCells_some {zs : List At} {j : Nat} {u : Value} (h : (atCells zs)[j]? = some u) : ∃ k, k < zs.length ∧ ((j = k * 2 ∧ u = .string (zs.getD k atNil).1) ∨ (j = k * 2 + 1 ∧ u = .int .i64 (zs.getD k atNil).2)) := by
  have hj : j < zs.length * 2 := by
    have := (List.getElem?_eq_some_iff.mp h).1
    rwa [atCells_length] at this
  rcases Nat.mod_two_eq_zero_or_one j with hm | hm
  · refine ⟨j / 2, by omega, Or.inl ⟨by omega, ?_⟩⟩
    have := (atCells_get zs (j / 2) (by omega)).1
    rw [show j / 2 * 2 = j by omega, h] at this
    injection this
  · refine ⟨j / 2, by omega, Or.inr ⟨by omega, ?_⟩⟩
    have := (atCells_get zs (j / 2) (by omega)).2
    rw [show j / 2 * 2 + 1 = j by omega, h] at this
    injection this
theorem atCells_one {zs : List At} : ∀ u ∈ atCells zs, u.oneCell' = true := by
  intro u hu
  simp only [atCells, List.mem_flatMap] at hu
  obtain ⟨x, _, hx⟩ := hu
  simp at hx
  rcases hx with rfl | rfl <;> rfl

theorem addr_add (b o j : Nat) : (⟨b, o, none⟩ : Addr).add j = ⟨b, o + j, none⟩ := by unfold Addr.add; split <;> simp_all
theorem vec_cells {w : World} {B : Nat} {ad : Addr} {m : Nat} {ys : List At} (h : VecAt w B (some ad) m ys) : ∀ j u, (atCells ys)[j]? = some u → w.cell? (ad.add j) = some u := by
  intro j u hu
  obtain ⟨k, hk, hj⟩ := atCells_some hu
  obtain ⟨b, off, e, _, hc⟩ := h.2 (by have := h.1; omega)
  injection e with e
  subst e
  have h1 := hc k (by have := h.1; omega)
  rw [addr_add]
  rcases hj with ⟨rfl, rfl⟩ | ⟨rfl, rfl⟩
  · exact h1.1
  · exact h1.2

/-- The two kinds of rows: the program's and the document's. -/
structure AtTy (sl e : TypeId) : Prop where
  u : Try.prog.underlying sl = some (.slice e)
  i : (Try.prog.info? e).map (fun i => (i.zero, i.size, i.bytes)) = some (some (.agg #[.string ⟨#[]⟩, .int .i64 0]), 2, 24)
theorem own_form {w : World} {B : Nat} {e : TypeId} {v : Value} {n : Nat} {xs : List Value} (h : w.ownsRow B e 2 v n xs) : ∃ A c, v = .slice A n c := by
  rcases h.2 with ⟨rfl, rfl⟩ | ⟨g, cap, _, rfl, _⟩
  · exact ⟨none, 0, rfl⟩
  · exact ⟨_, cap, rfl⟩
theorem own_vec {w : World} {B : Nat} {e : TypeId} {A : Option Addr} {n c : Nat} {zs : List At} (h : w.ownsRow B e 2 (.slice A n c) n (atCells zs)) : VecAt w w.heap.size A n zs := by
  have hl : zs.length = n := by have := h.1; rw [atCells_length] at this; omega
  refine ⟨hl, fun hn => ?_⟩
  have hh := h
  obtain ⟨g, cap, hv, _, hlt⟩ := h.form hn
  injection hv with hA
  subst hA
  refine ⟨g, 0, rfl, hlt, fun k hk => ?_⟩
  have h1 := atCells_get zs k (by omega)
  have h2 := hh.cells (g := g) rfl (k * 2) _ h1.1
  have h3 := hh.cells (g := g) rfl (k * 2 + 1) _ h1.2
  rw [addr_add] at h2 h3
  exact ⟨h2, h3⟩
theorem own_lt {w : World} {B : Nat} {e : TypeId} {v : Value} {n : Nat} {xs : List Value} (h : w.ownsRow B e 2 v n xs) {g : Nat} (hg : v.ownBlock = some g) : B ≤ g ∧ g < w.heap.size := h.lt g hg

theorem run_append_at {sl e ty : TypeId} (T : AtTy sl e) {w : World} {B B' : Nat} {v : Value} {n : Nat} {zs : List At} (hown : w.ownsRow B e 2 v n (atCells zs)) {A : Option Addr} {m : Nat} {ys : List At} (c : Nat)
    (hr : VecAt w B' A m ys) (hb : n + m ≤ 1099511627776) (hB : B ≤ w.heap.size) :
    ∃ v' w', (Builtin.append_ #[sl, sl] ty #[v, .slice A m c]).run Try.prog w = .ok v' w' ∧ w'.ownsRow B e 2 v' (n + m) (atCells (zs ++ ys)) ∧ w.grownBy w' v.ownBlock ∧ (v'.ownBlock = v.ownBlock ∨ v'.ownBlock = some w.heap.size) := by
  obtain ⟨i, hi, hz0, hz1, hz2⟩ := info_parts T.i
  rcases A with _ | ad
  · have hm : m = 0 := by
      rcases Nat.eq_zero_or_pos m with h0 | h0
      · exact h0
      · obtain ⟨_, _, h, _⟩ := hr.2 h0
        cases h
    subst hm
    have hy : ys = [] := List.eq_nil_of_length_eq_zero hr.1
    subst hy
    refine ⟨v, w, ?_, by simpa using hown, World.grownBy.refl w _, .inl rfl⟩
    rcases hown.2 with ⟨rfl, rfl⟩ | ⟨g, cap, cur, rfl, _, _, hnc, _⟩
    · simp [Builtin.append_, run_underlying T.u, sizeOf, typeInfo, hi, Builtin.lenOf, Builtin.firstCells]
    · simp [Builtin.append_, run_underlying T.u, sizeOf, typeInfo, hi, Builtin.lenOf, Builtin.firstCells, hnc, storeCells]
  · obtain ⟨v', w', hrun, h2, h3, _, h5⟩ := run_append_own_at (P := Try.prog) w B sl ty e i (.agg #[.string ⟨#[]⟩, .int .i64 0]) 2 24 T.u hi hz0 hz1 hz2 rfl (by decide) v n _ hown ad m c (atCells ys) (by rw [atCells_length, hr.1]) (vec_cells hr)
      atCells_one (by unfold maxLen; omega) (by omega) hB
    exact ⟨v', w', hrun, by rw [atCells_append]; exact h2, h3, h5⟩

theorem wp_append_at {o : Oper} {a : Act} {K : Act → World → Prop} {Q : Exit → Act → World → Prop} {sl e : TypeId} (T : AtTy sl e) (s x : Operand) (ho : o.op = .call { callee := .builtin .append, args := #[s, x], argTypes := #[sl, sl] })
    {w : World} {B B' : Nat} {v : Value} {n : Nat} {zs : List At} (hs : a.eval s = v) (hown : w.ownsRow B e 2 v n (atCells zs)) {A : Option Addr} {m : Nat} {ys : List At} {c : Nat} (hx : a.eval x = .slice A m c)
    (hr : VecAt w B' A m ys) (hb : n + m ≤ 1099511627776) (hB : B ≤ w.heap.size)
    (h : ∀ A' c' w', w'.ownsRow B e 2 (.slice A' (n + m) c') (n + m) (atCells (zs ++ ys)) → w.grownBy w' v.ownBlock → (Value.ownBlock (.slice A' (n + m) c') = v.ownBlock ∨ Value.ownBlock (.slice A' (n + m) c') = some w.heap.size) → K (a.put o.dst (.slice A' (n + m) c')) w') : o.wp Try.prog a w K Q := by
  obtain ⟨v', w', hrun, h2, h3, h4⟩ := run_append_at (ty := o.type) T hown c hr hb hB
  obtain ⟨A', c', rfl⟩ := own_form h2
  unfold Oper.wp execOp
  simp only [ho, resolve, invoke, builtin, Sem.run_bind, Sem.run_pure, Result.andThen_ok, List.map_toArray, List.map_cons, List.map_nil, hs, hx, hrun]
  exact h A' c' w' h2 h3 h4
theorem wpList_append_at {ops : Array Oper} {rest : List Oper} {o : Oper} {a : Act} {Q : Exit → Act → World → Prop} {sl e : TypeId} (T : AtTy sl e) (hgd : o.guard = none) (s x : Operand) (ho : o.op = .call { callee := .builtin .append, args := #[s, x], argTypes := #[sl, sl] })
    {w : World} {B B' : Nat} {v : Value} {n : Nat} {zs : List At} (hs : a.eval s = v) (hown : w.ownsRow B e 2 v n (atCells zs)) {A : Option Addr} {m : Nat} {ys : List At} {c : Nat} (hx : a.eval x = .slice A m c)
    (hr : VecAt w B' A m ys) (hb : n + m ≤ 1099511627776) (hB : B ≤ w.heap.size)
    (h : ∀ A' c' w', w'.ownsRow B e 2 (.slice A' (n + m) c') (n + m) (atCells (zs ++ ys)) → w.grownBy w' v.ownBlock → (Value.ownBlock (.slice A' (n + m) c') = v.ownBlock ∨ Value.ownBlock (.slice A' (n + m) c') = some w.heap.size) → wpList Try.prog ops Q rest (a.put o.dst (.slice A' (n + m) c')) w') :
    wpList Try.prog ops Q (o :: rest) a w :=
  wpList_plain hgd fun _ hK => wp_append_at T s x ho hs hown hx hr hb hB fun A' c' w' h2 h3 h4 => hK _ _ (h A' c' w' h2 h3 h4)
theorem step_append_at {ops : Array Oper} {o : Oper} {a : Act} {K : Act → World → Prop} {Q : Exit → Act → World → Prop} {E : Prop} {sl e : TypeId} (T : AtTy sl e) (hgd : o.guard = none) (s x : Operand) (ho : o.op = .call { callee := .builtin .append, args := #[s, x], argTypes := #[sl, sl] })
    {w : World} {B B' : Nat} {v : Value} {n : Nat} {zs : List At} (hs : a.eval s = v) (hown : w.ownsRow B e 2 v n (atCells zs)) {A : Option Addr} {m : Nat} {ys : List At} {c : Nat} (hx : a.eval x = .slice A m c)
    (hr : VecAt w B' A m ys) (hb : n + m ≤ 1099511627776) (hB : B ≤ w.heap.size)
    (h : ∀ A' c' w', w'.ownsRow B e 2 (.slice A' (n + m) c') (n + m) (atCells (zs ++ ys)) → w.grownBy w' v.ownBlock → (Value.ownBlock (.slice A' (n + m) c') = v.ownBlock ∨ Value.ownBlock (.slice A' (n + m) c') = some w.heap.size) → K (a.put o.dst (.slice A' (n + m) c')) w') :
    if Region.wanted o (yielded ops a.tmps) = true then Oper.wp Try.prog o a w K Q else E := by
  have hw : Region.wanted o (yielded ops a.tmps) = true := by simp [Region.wanted, hgd]
  rw [if_pos hw]
  exact wp_append_at T s x ho hs hown hx hr hb hB h

/-- The row of one element that append lays first. -/
theorem one_at {w : World} {g : Nat} {e : TypeId} {s : ByteArray} {n : Int} {fr : Nat × Nat} (h : w.heap[g]? = some (.cells #[.string s, .int .i64 n] e fr)) : VecAt w (g + 1) (some ⟨g, 0, none⟩) 1 [(s, n)] :=
  ⟨rfl, fun _ => ⟨_, _, rfl, by omega, fun k hk => by
    obtain rfl : k = 0 := by omega
    exact ⟨by have := cell_of_row w g 0 _ _ _ h; simpa using this, by have := cell_of_row w g 1 _ _ _ h; simpa using this⟩⟩⟩

/-- Where a row lies behind a call: nowhere, or in a block from B on. -/
theorem grown_of_below {w w' : World} (h : Below w.heap.size w w') (row : Option Nat) : w.grownBy w' row := ⟨h.os, h.tape, h.output, h.size, fun k hk _ => h.block k hk⟩
theorem grown_below {w w' : World} {B : Nat} {row : Option Nat} (hg : w.grownBy w' row) (hB : B ≤ w.heap.size) (hr : ∀ g, row = some g → B ≤ g) : Below B w w' :=
  ⟨hg.os, hg.tape, hg.output, hg.size, fun k hk => hg.block k (by omega) (fun e => by have := hr _ e.symm; omega)⟩
theorem own_nil (w : World) (B : Nat) (e : TypeId) : w.ownsRow B e 2 (.slice none 0 0) 0 (atCells []) := ⟨rfl, .inl ⟨rfl, rfl⟩⟩
/-- The row stays its own, whatever turned but it. -/
theorem own_grown {w w' : World} {B : Nat} {e : TypeId} {v : Value} {n : Nat} {xs : List Value} (h : w.ownsRow B e 2 v n xs) {row : Option Nat} (hg : w.grownBy w' row) (hne : row = none ∨ v.ownBlock ≠ row) : w'.ownsRow B e 2 v n xs :=
  h.kept (row := row) hg (by
    rcases hne with rfl | hne
    · cases hv : v.ownBlock <;> simp
    · exact .inr hne)
theorem own_below {w w' : World} {B : Nat} {e : TypeId} {v : Value} {n : Nat} {xs : List Value} (h : w.ownsRow B e 2 v n xs) (hb : Below w.heap.size w w') : w'.ownsRow B e 2 v n xs :=
  own_grown h (grown_of_below hb none) (.inl rfl)
end Go.Proofs.Ytpaiigminmakgaa

/- vec.order, the library's binary search by it, and vec.Of. -/
namespace Go.Proofs.Ytpaiigminmakgaa
open Go.RowKit

/-- The cells of one element, in a world that came behind. -/
theorem VecAt.cells {w wr : World} {B : Nat} {A : Option Addr} {n : Nat} {zs : List At} (h : VecAt w B A n zs) (hb : Below B w wr) {k : Nat} (hk : k < n) :
    ∃ b off, A = some ⟨b, off, none⟩ ∧ b < B ∧ wr.cell? ⟨b, off + k * 2, none⟩ = some (.string (zs.getD k atNil).1) ∧ wr.cell? ⟨b, off + k * 2 + 1, none⟩ = some (.int .i64 (zs.getD k atNil).2) := by
  obtain ⟨b, off, e, hlt, hc⟩ := (h.keep hb).2 (by omega)
  exact ⟨b, off, e, hlt, hc k hk⟩

end Go.Proofs.Ytpaiigminmakgaa

/- vec.Within and vec.Right. -/
namespace Go.Proofs.Ytpaiigminmakgaa
open Go.RowKit

/-- Is none of zs farther than in ys? -/
def withinFV (zs ys : List At) : Bool := zs.all fun x => decide (x.2 ≤ ofF ys x.1)
theorem all_take {zs : List At} {f : At → Bool} {k : Nat} (hk : k < zs.length) : (zs.take (k + 1)).all f = ((zs.take k).all f && f (zs.getD k atNil)) := by
  rw [List.take_succ_eq_append_getElem hk, List.all_append, List.getD_eq_getElem?_getD, List.getElem?_eq_getElem hk]
  simp
theorem all_false {zs : List At} {f : At → Bool} {k : Nat} (hk : k < zs.length) (h : f (zs.getD k atNil) = false) : zs.all f = false := by
  rw [List.all_eq_false]
  exact ⟨_, getD_mem hk, fun e => by rw [h] at e; cases e⟩

end Go.Proofs.Ytpaiigminmakgaa

/- vec.Right, and the document's. -/
namespace Go.Proofs.Ytpaiigminmakgaa
open Go.RowKit

theorem quiet_same {P : Program} {f : FuncId} {args : Array Value} {w : World} {n : Nat} {v : Value} (h : Calls P f args (w.drewN n) fun e w' => e = .returned v ∧ w.drewN n = w') : Calls P f args (w.drewN n) fun e w'' => e = .returned v ∧ ∃ m, w'' = w.drewN m :=
  h.mono fun _ _ ⟨he, hm⟩ => ⟨he, n, hm.symm⟩
theorem quiet_drawn {P : Program} {f : FuncId} {args : Array Value} {w : World} {n : Nat} {v : Value} (h : Calls P f args (w.drewN n) fun e w' => e = .returned v ∧ Hid (Drawn (w.drewN n) w')) : Calls P f args (w.drewN n) fun e w'' => e = .returned v ∧ ∃ m, w'' = w.drewN m :=
  h.mono fun _ _ ⟨he, hm⟩ => ⟨he, by obtain ⟨m, rfl⟩ := hm.out; exact ⟨n + m, by rw [World.drewN_drewN]⟩⟩

/-- May the one stand in a Vec? -/
def okAt (x : At) : Bool := rightL x.1.data.toList && (decide (1 ≤ x.2) && decide (x.2 ≤ 1048576))
/-- May it be? -/
def rightVV (zs : List At) : Bool := (List.range zs.length).all fun k => okAt (zs.getD k atNil) && (k == 0 || decide (cmpId (zs.getD (k - 1) atNil).1 (zs.getD k atNil).1 < 0))
/-- Up to k nothing is wrong. -/
def RightTo (zs : List At) (k : Nat) : Prop := ∀ j, j < k → okAt (zs.getD j atNil) = true ∧ (0 < j → cmpId (zs.getD (j - 1) atNil).1 (zs.getD j atNil).1 < 0)
theorem rightTo_zero (zs : List At) : RightTo zs 0 := fun j hj => by omega
theorem rightTo_succ {zs : List At} {k : Nat} (h : RightTo zs k) (h1 : okAt (zs.getD k atNil) = true) (h2 : 0 < k → cmpId (zs.getD (k - 1) atNil).1 (zs.getD k atNil).1 < 0) : RightTo zs (k + 1) := fun j hj => by
  by_cases e : j = k
  · subst e; exact ⟨h1, h2⟩
  · exact h j (by omega)
theorem rightV_iff (zs : List At) : rightVV zs = true ↔ RightTo zs zs.length := by
  unfold rightVV RightTo
  rw [List.all_eq_true]
  constructor
  · intro h j hj
    have := h j (List.mem_range.mpr hj)
    rw [Bool.and_eq_true, Bool.or_eq_true, beq_iff_eq, decide_eq_true_iff] at this
    exact ⟨this.1, fun h0 => this.2.resolve_left (by omega)⟩
  · intro h j hj
    have := h j (List.mem_range.mp hj)
    rw [Bool.and_eq_true, Bool.or_eq_true, beq_iff_eq, decide_eq_true_iff]
    refine ⟨this.1, ?_⟩
    by_cases h0 : j = 0
    · exact Or.inl h0
    · exact Or.inr (this.2 (by omega))
theorem rightV_no {zs : List At} {k : Nat} (hk : k < zs.length) (h : okAt (zs.getD k atNil) = false ∨ (0 < k ∧ ¬ cmpId (zs.getD (k - 1) atNil).1 (zs.getD k atNil).1 < 0)) : rightVV zs = false := by
  rw [Bool.eq_false_iff]
  intro e
  have := (rightV_iff zs).mp e k hk
  rcases h with h | h
  · rw [h] at this; exact absurd this.1 (by simp)
  · exact h.2 (this.2 h.1)
theorem okAt_no {x : At} (h : rightL x.1.data.toList = false ∨ x.2 < 1 ∨ 1048576 < x.2) : okAt x = false := by
  unfold okAt
  rcases h with h | h | h
  · rw [h]; rfl
  · rw [decide_eq_false (show ¬ 1 ≤ x.2 by omega)]; simp
  · rw [decide_eq_false (show ¬ x.2 ≤ 1048576 by omega)]; simp
theorem okAt_yes {x : At} (h : rightL x.1.data.toList = true) (h1 : ¬ x.2 < 1) (h2 : ¬ 1048576 < x.2) : okAt x = true := by
  unfold okAt
  rw [h, decide_eq_true (show 1 ≤ x.2 by omega), decide_eq_true (show x.2 ≤ 1048576 by omega)]; rfl

end Go.Proofs.Ytpaiigminmakgaa

/- vec.Join: of each the greater one. -/
namespace Go.Proofs.Ytpaiigminmakgaa
open Go.RowKit

/-- Two rising rows as one: of each the greater number. -/
def joinF : List At → List At → List At
  | [], ys => ys
  | x :: xs, [] => x :: xs
  | x :: xs, y :: ys => if cmpId x.1 y.1 < 0 then x :: joinF xs (y :: ys) else if 0 < cmpId x.1 y.1 then y :: joinF (x :: xs) ys else (x.1, max x.2 y.2) :: joinF xs ys
  termination_by xs ys => xs.length + ys.length

theorem joinF_nil (xs : List At) : joinF xs [] = xs := by cases xs <;> simp [joinF]
theorem joinF_lt {x y : At} {xs ys : List At} (h : cmpId x.1 y.1 < 0) : joinF (x :: xs) (y :: ys) = x :: joinF xs (y :: ys) := by rw [joinF, if_pos h]
theorem joinF_gt {x y : At} {xs ys : List At} (h : 0 < cmpId x.1 y.1) : joinF (x :: xs) (y :: ys) = y :: joinF (x :: xs) ys := by rw [joinF, if_neg (by omega), if_pos h]
theorem joinF_eq {x y : At} {xs ys : List At} (h : cmpId x.1 y.1 = 0) : joinF (x :: xs) (y :: ys) = (x.1, max x.2 y.2) :: joinF xs ys := by rw [joinF, if_neg (by omega), if_neg (by omega)]

/-- The answer is the row zs, in a row of the call's own, from block B on; nothing that was there has turned. -/
def OwnVec (B : Nat) (ty : TypeId) (zs : List At) (w : World) (e : Ending) (w' : World) : Prop :=
  ∃ A c, e = .returned (.slice A zs.length c) ∧ zs.length ≤ c ∧ w'.ownsRow B ty 2 (.slice A zs.length c) zs.length (atCells zs) ∧ Below w.heap.size w w'
theorem own_cap {w : World} {B : Nat} {e : TypeId} {A : Option Addr} {n c : Nat} {xs : List Value} (h : w.ownsRow B e 2 (.slice A n c) n xs) : n ≤ c := by
  rcases h.2 with ⟨hv, rfl⟩ | ⟨g, cap, cur, hv, _, _, hnc, _⟩
  · exact Nat.zero_le _
  · injection hv with _ _ h3; omega

def lenOf : Value → Nat | .slice _ n _ => n | _ => 0
theorem VecAt.head {w : World} {B : Nat} {A : Option Addr} {n : Nat} {zs : List At} (h : VecAt w B A n zs) (hn : 0 < n) :
    ∃ b off x xt, A = some ⟨b, off, none⟩ ∧ b < B ∧ zs = x :: xt ∧ xt.length = n - 1 ∧ w.cell? ⟨b, off, none⟩ = some (.string x.1) ∧ w.cell? ⟨b, off + 1, none⟩ = some (.int .i64 x.2) := by
  obtain ⟨b, off, e, hb, hc⟩ := h.2 hn
  match zs, h.1 with
  | [], h1 => simp at h1; omega
  | x :: xt, h1 => exact ⟨b, off, x, xt, e, hb, rfl, by simp at h1; omega, by simpa using (hc 0 hn).1, by simpa using (hc 0 hn).2⟩
end Go.Proofs.Ytpaiigminmakgaa

/- vec.Join walked. -/
namespace Go.Proofs.Ytpaiigminmakgaa
open Go.RowKit

end Go.Proofs.Ytpaiigminmakgaa

/- vec.Set and vec.Meet. -/
namespace Go.Proofs.Ytpaiigminmakgaa
open Go.RowKit

theorem own_base {w : World} {B B' : Nat} {e : TypeId} {v : Value} {n : Nat} {xs : List Value} (h : w.ownsRow B e 2 v n xs) (hB : B' ≤ B) : w.ownsRow B' e 2 v n xs :=
  ⟨h.1, h.2.imp id fun ⟨g, cap, cur, a, b, r⟩ => ⟨g, cap, cur, a, Nat.le_trans hB b, r⟩⟩
theorem OwnVec.lift {B B' : Nat} {ty : TypeId} {zs : List At} {w w1 w' : World} {e : Ending} (h : OwnVec B ty zs w1 e w') (hB : B' ≤ B) (hb : Below w.heap.size w w1) : OwnVec B' ty zs w e w' := by
  obtain ⟨A, c, he, hc, ho, hw⟩ := h
  exact ⟨A, c, he, hc, own_base ho hB, hb.trans (hw.mono hb.size)⟩

/-- zs, where a is n far at least. -/
def setF (zs : List At) (a : ByteArray) (n : Int) : List At := if rightL a.data.toList = true ∧ 1 ≤ n then joinF zs [(a, min n 1048576)] else zs

theorem ownVec_ret {B : Nat} {ty : TypeId} {zs : List At} {w w' : World} {A : Option Addr} {n c : Nat} (hl : zs.length = n) (hc : n ≤ c) (ho : w'.ownsRow B ty 2 (.slice A n c) n (atCells zs)) (hb : Below w.heap.size w w') : OwnVec B ty zs w (.returned (.slice A n c)) w' := by
  subst hl
  exact ⟨A, c, rfl, hc, ho, hb⟩

/-- Of each of zs the lesser number; who is 0 far isn't there. -/
def meetF (zs ys : List At) : List At := zs.filterMap fun x => if 0 < min x.2 (ofF ys x.1) then some (x.1, min x.2 (ofF ys x.1)) else none
theorem meet_step {zs ys : List At} {k : Nat} (hk : k < zs.length) : meetF (zs.drop k) ys = (if 0 < min (zs.getD k atNil).2 (ofF ys (zs.getD k atNil).1) then [((zs.getD k atNil).1, min (zs.getD k atNil).2 (ofF ys (zs.getD k atNil).1))] else []) ++ meetF (zs.drop (k + 1)) ys := by
  have e : zs.getD k atNil = zs[k] := by rw [List.getD_eq_getElem?_getD, List.getElem?_eq_getElem hk]; rfl
  rw [e, List.drop_eq_getElem_cons hk, meetF, List.filterMap_cons]
  by_cases h : 0 < min (zs[k]).2 (ofF ys (zs[k]).1)
  · simp only [h, if_true]; rfl
  · simp only [h, if_false]; rfl
theorem meet_len (zs ys : List At) : (meetF zs ys).length ≤ zs.length := List.length_filterMap_le _ _

end Go.Proofs.Ytpaiigminmakgaa

/- The law's own little check 'told'. -/
namespace Go.Proofs.Ytpaiigminmakgaa
open Go.RowKit

theorem told_1 : setF [] (ByteArray.mk #[48, 49]) 2 = [(ByteArray.mk #[48, 49], 2)] := by
  unfold setF
  rw [if_pos (by decide)]
  simp only [joinF]
  rfl
theorem told_2 : setF [(ByteArray.mk #[48, 49], 2)] (ByteArray.mk #[48]) 3 = [(ByteArray.mk #[48], 3), (ByteArray.mk #[48, 49], 2)] := by
  unfold setF
  rw [if_pos (by decide), joinF_gt (by decide), joinF_nil]
  rfl
theorem told_3 : setF [] (ByteArray.mk #[48]) 1 = [(ByteArray.mk #[48], 1)] := by
  unfold setF
  rw [if_pos (by decide)]
  simp only [joinF]
  rfl
theorem told_4 : meetF [(ByteArray.mk #[48], 3), (ByteArray.mk #[48, 49], 2)] [(ByteArray.mk #[48], 1)] = [(ByteArray.mk #[48], 1)] := by decide
theorem told_5 : Rising [(ByteArray.mk #[48], 3), (ByteArray.mk #[48, 49], 2)] := by unfold Rising; decide
theorem told_6 : Rising [(ByteArray.mk #[48], 1)] := by unfold Rising; decide
theorem told_7 : withinFV [(ByteArray.mk #[48], 1)] [(ByteArray.mk #[48], 3), (ByteArray.mk #[48, 49], 2)] = true := by decide
theorem told_8 : withinFV [(ByteArray.mk #[48], 3), (ByteArray.mk #[48, 49], 2)] [(ByteArray.mk #[48], 1)] = false := by decide
theorem told_9 : rightVV [(ByteArray.mk #[48], 3), (ByteArray.mk #[48, 49], 2)] = true := by decide
theorem told_10 : ofF [(ByteArray.mk #[48], 3), (ByteArray.mk #[48, 49], 2)] (ByteArray.mk #[48, 49]) = 2 := by decide

end Go.Proofs.Ytpaiigminmakgaa

/- The law's To, the document's Right of a Vec, and VecRights walked. -/
namespace Go.Proofs.Ytpaiigminmakgaa
open Go.RowKit

theorem take_snoc {zs : List At} {k : Nat} (hk : k < zs.length) : zs.take (k + 1) = zs.take k ++ [zs.getD k atNil] := by
  rw [List.take_succ_eq_append_getElem hk, List.getD_eq_getElem?_getD, List.getElem?_eq_getElem hk]; rfl
/-- A copy, half way. -/
def CopyRel (w : World) (ty : TypeId) (zs : List At) (k : Nat) (Av : Option Addr) (cv : Nat) (wr : World) : Prop :=
  wr.ownsRow w.heap.size ty 2 (.slice Av k cv) k (atCells (zs.take k)) ∧ Below w.heap.size w wr

theorem rcompare_is (a b : ByteArray) (x : Int) (h : Hid (Lib.compareBytes a.data.toList b.data.toList = x)) (w : World) (ha : Hid (a.size ≤ 9223372036854775807)) :
    Calls Try.prog 55 #[.string a, .string b] w fun e w' => e = .returned (.int .i64 x) ∧ Hid (Drawn w w') := by
  rw [← h.out]; exact rcompare_any a b w ha.out

theorem drawn_below {w w' : World} (h : Drawn w w') (B : Nat) : Below B w w' := by
  obtain ⟨n, rfl⟩ := h
  exact below_drewN (Below.refl _ _) n

/-- Each id is as short as a string of the machine may be. -/
def Short (zs : List At) : Prop := ∀ k, (zs.getD k atNil).1.size ≤ 9223372036854775807

theorem vec_take {w : World} {B : Nat} {A : Option Addr} {n m : Nat} {zs : List At} (h : VecAt w B A n zs) (hm : m ≤ n) : VecAt w B A m (zs.take m) :=
  ⟨by rw [List.length_take, h.1]; omega, fun hp => by
    obtain ⟨b, off, e, hlt, hc⟩ := h.2 (by omega)
    refine ⟨b, off, e, hlt, fun k hk => ?_⟩
    have := hc k (by omega)
    simpa [List.getD_eq_getElem?_getD, hk] using this⟩
theorem Short.take {zs : List At} (h : Short zs) (m : Nat) : Short (zs.take m) := fun k => by
  have h1 := h k
  by_cases hk : k < m
  · simpa [List.getD_eq_getElem?_getD, hk] using h1
  · rw [List.getD_eq_getElem?_getD, List.getElem?_eq_none (by rw [List.length_take]; omega)]
    show 0 ≤ _
    omega

end Go.Proofs.Ytpaiigminmakgaa

/- The document's Of and Drop, and vec.Drop. -/
namespace Go.Proofs.Ytpaiigminmakgaa
open Go.RowKit

theorem beq_yes {a b : ByteArray} (h : a = b) : (a.toList == b.toList) = true := by
  subst h; exact beq_self_eq_true _
theorem beq_no {a b : ByteArray} (h : a ≠ b) : (a.toList == b.toList) = false := by
  rw [Go.ByteArray.toList_eq, Go.ByteArray.toList_eq]
  exact beq_eq_false_iff_ne.mpr fun e => h (ByteArray.ext (Array.ext' e))

theorem ofF_drop_step {zs : List At} {a : ByteArray} {k : Nat} (hk : k < zs.length) (hne : (zs.getD k atNil).1 ≠ a) : ofF (zs.drop k) a = ofF (zs.drop (k + 1)) a := by
  rw [List.drop_eq_getElem_cons hk, ofF, if_neg]
  rw [List.getD_eq_getElem?_getD, List.getElem?_eq_getElem hk] at hne
  exact hne
theorem ofF_drop_hit {zs : List At} {a : ByteArray} {k : Nat} (hk : k < zs.length) (he : (zs.getD k atNil).1 = a) : ofF (zs.drop k) a = (zs.getD k atNil).2 := by
  have e : zs.getD k atNil = zs[k] := by rw [List.getD_eq_getElem?_getD, List.getElem?_eq_getElem hk]; rfl
  rw [List.drop_eq_getElem_cons hk, ofF, if_pos (by rw [← e]; exact he), e]

/-- Without one. -/
def dropFV (zs : List At) (a : ByteArray) : List At := zs.filter fun x => decide (x.1 ≠ a)
theorem dropF_len (zs : List At) (a : ByteArray) : (dropFV zs a).length ≤ zs.length := List.length_filter_le _ _
theorem dropF_hit {zs : List At} {a : ByteArray} {k : Nat} (hk : k < zs.length) (he : (zs.getD k atNil).1 = a) : dropFV (zs.take (k + 1)) a = dropFV (zs.take k) a := by
  rw [take_snoc hk, dropFV, List.filter_append]
  simp only [List.filter_cons, List.filter_nil]
  rw [if_neg (by simpa using he)]
  simp [dropFV]
theorem dropF_keep {zs : List At} {a : ByteArray} {k : Nat} (hk : k < zs.length) (hne : (zs.getD k atNil).1 ≠ a) : dropFV (zs.take (k + 1)) a = dropFV (zs.take k) a ++ [zs.getD k atNil] := by
  rw [take_snoc hk, dropFV, List.filter_append]
  simp only [List.filter_cons, List.filter_nil]
  rw [if_pos (by simpa using hne)]
  simp [dropFV]

theorem new2 (w : World) (o o' : Obj) : ((w.alloc o).alloc o').heap[w.heap.size + 1]? = some o' := by simpa using heap_alloc_new (w.alloc o) o'
/-- A row that is being made. -/
def MakeRel (w : World) (ty : TypeId) (t : List At) (Av : Option Addr) (nv cv : Nat) (wr : World) : Prop :=
  t.length = nv ∧ wr.ownsRow w.heap.size ty 2 (.slice Av nv cv) nv (atCells t) ∧ Below w.heap.size w wr
theorem MakeRel.start (w : World) (ty : TypeId) : MakeRel w ty [] none 0 0 w := ⟨rfl, own_nil _ _ _, Below.refl _ _⟩
theorem MakeRel.step {w : World} {ty : TypeId} {t : List At} {Av : Option Addr} {nv cv : Nat} {wr w1 : World} (h : MakeRel w ty t Av nv cv wr) (hb : Below wr.heap.size wr w1) : MakeRel w ty t Av nv cv w1 :=
  ⟨h.1, own_below h.2.1 hb, h.2.2.trans (hb.mono h.2.2.size)⟩
theorem MakeRel.push {w : World} {ty : TypeId} {t : List At} {Av : Option Addr} {nv cv : Nat} {wr w1 w3 : World} (h : MakeRel w ty t Av nv cv wr) (hb : Below wr.heap.size wr w1) {x : At} {A3 : Option Addr} {c3 : Nat}
    (ho : w3.ownsRow w.heap.size ty 2 (.slice A3 (nv + 1) c3) (nv + 1) (atCells (t ++ [x]))) (hg : w1.grownBy w3 (Value.ownBlock (.slice Av nv cv))) : MakeRel w ty (t ++ [x]) A3 (nv + 1) c3 w3 :=
  ⟨by simp [h.1], ho, (h.2.2.trans (hb.mono h.2.2.size)).trans (grown_below hg (Nat.le_trans h.2.2.size hb.size) (fun g e => (own_lt h.2.1 e).1))⟩
theorem MakeRel.own {w : World} {ty : TypeId} {t : List At} {Av : Option Addr} {nv cv : Nat} {wr : World} (h : MakeRel w ty t Av nv cv wr) : OwnVec w.heap.size ty t w (.returned (.slice Av nv cv)) wr :=
  ownVec_ret h.1 (own_cap h.2.1) h.2.1 h.2.2

end Go.Proofs.Ytpaiigminmakgaa

/- The document's put: one is just so far. -/
namespace Go.Proofs.Ytpaiigminmakgaa
open Go.RowKit

theorem own_set {w : World} {B : Nat} {e : TypeId} {g n c : Nat} {xs : List Value} (h : w.ownsRow B e 2 (.slice (some ⟨g, 0, none⟩) n c) n xs) (j : Nat) (u : Value) : (w.setCell ⟨g, j, none⟩ u).ownsRow B e 2 (.slice (some ⟨g, 0, none⟩) n c) n (xs.set j u) := by
  refine ⟨by rw [List.length_set]; exact h.1, ?_⟩
  rcases h.2 with ⟨hv, _⟩ | ⟨g', cap, cur, hv, hB, hh, hnc, hm, hs, ht⟩
  · cases hv
  · injection hv with e1 _ e3
    injection e1 with e1
    injection e1 with e1
    subst e1 e3
    refine .inr ⟨g, c, cur.setIfInBounds j u, rfl, hB, heap_setCell_same w g j cur e u hh, hnc, hm, by simp [hs], ?_⟩
    rw [Array.toList_setIfInBounds, ← ht, List.take_set]
theorem own_frozen {w : World} {B : Nat} {e : TypeId} {g n c : Nat} {xs : List Value} (h : w.ownsRow B e 2 (.slice (some ⟨g, 0, none⟩) n c) n xs) (j : Nat) : w.frozen? ⟨g, j, none⟩ = false := by
  rcases h.2 with ⟨hv, _⟩ | ⟨g', cap, cur, hv, hB, hh, hnc, hm, hs, ht⟩
  · cases hv
  · injection hv with e1 _ e3
    injection e1 with e1
    injection e1 with e1
    subst e1
    simp [World.frozen?, hh]
theorem set_mid {α : Type} (P : List α) (a b c d : α) (S : List α) (a' b' c' d' : α) :
    ((((P ++ a :: b :: c :: d :: S).set P.length c').set (P.length + 1) d').set (P.length + 2) a').set (P.length + 3) b' = P ++ c' :: d' :: a' :: b' :: S := by
  induction P with
  | nil => rfl
  | cons x P ih => simp
theorem swap_cells (pre post : List At) (x y : At) :
    ((((atCells (pre ++ y :: x :: post)).set (pre.length * 2) (.string x.1)).set (pre.length * 2 + 1) (.int .i64 x.2)).set (pre.length * 2 + 2) (.string y.1)).set (pre.length * 2 + 3) (.int .i64 y.2) = atCells (pre ++ x :: y :: post) := by
  have e1 : atCells (pre ++ y :: x :: post) = atCells pre ++ .string y.1 :: .int .i64 y.2 :: .string x.1 :: .int .i64 x.2 :: atCells post := by rw [atCells_append]; rfl
  have e2 : atCells (pre ++ x :: y :: post) = atCells pre ++ .string x.1 :: .int .i64 x.2 :: .string y.1 :: .int .i64 y.2 :: atCells post := by rw [atCells_append]; rfl
  rw [e1, e2, ← atCells_length]
  exact set_mid _ _ _ _ _ _ _ _ _ _

/-- What put leaves: the one stands where those behind it are greater, and the one ahead of it isn't. -/
def PutIs (d : List At) (x : At) (r : List At) : Prop :=
  ∃ pre post, pre ++ post = d ∧ r = pre ++ x :: post ∧ (∀ y ∈ post, 0 < cmpId y.1 x.1) ∧ (∀ y, pre.getLast? = some y → cmpId y.1 x.1 ≤ 0)

end Go.Proofs.Ytpaiigminmakgaa

/- Plain mathematics of Vecs: a rising row of numbers from 1 on is told by how far each one is; Join, Meet, Drop and put in these words. -/
namespace Go.Proofs.Ytpaiigminmakgaa

def Pos (zs : List At) : Prop := ∀ x ∈ zs, 1 ≤ x.2
theorem ofF_nonneg {zs : List At} (h : Pos zs) (a : ByteArray) : 0 ≤ ofF zs a := by
  induction zs with
  | nil => exact Int.le_refl _
  | cons x r ih =>
    unfold ofF
    split
    · have := h x (by simp); omega
    · exact ih fun y hy => h y (by simp [hy])
theorem ofF_ahead {y : At} {ys : List At} (h : Rising (y :: ys)) {a : ByteArray} (ha : cmpId a y.1 < 0) : ofF (y :: ys) a = 0 := by
  apply ofF_none
  rintro z hz rfl
  rcases List.mem_cons.mp hz with rfl | hz
  · rw [cmpId_self] at ha; omega
  · have h1 := (List.pairwise_cons.mp h).1 z hz
    have := cmpId_lt _ _ _ ha (show cmpId y.1 z.1 ≤ 0 by omega)
    rw [cmpId_self] at this; omega
theorem ofF_tail {x : At} {xs : List At} (h : Rising (x :: xs)) : ofF xs x.1 = 0 := by
  apply ofF_none
  intro z hz e
  have h1 := (List.pairwise_cons.mp h).1 z hz
  rw [e, cmpId_self] at h1; omega
theorem Rising.tail {x : At} {xs : List At} (h : Rising (x :: xs)) : Rising xs := (List.pairwise_cons.mp h).2
theorem Pos.tail {x : At} {xs : List At} (h : Pos (x :: xs)) : Pos xs := fun y hy => h y (by simp [hy])
theorem ofF_head (x : At) (xs : List At) : ofF (x :: xs) x.1 = x.2 := by unfold ofF; rw [if_pos rfl]
theorem ofF_cons_ne {x : At} {xs : List At} {a : ByteArray} (h : x.1 ≠ a) : ofF (x :: xs) a = ofF xs a := by rw [ofF, if_neg h]

/-- Two rising rows of numbers from 1 on in which each one is as far are the same. -/
theorem vec_ext : ∀ {xs ys : List At}, Rising xs → Rising ys → Pos xs → Pos ys → (∀ a, ofF xs a = ofF ys a) → xs = ys
  | [], [], _, _, _, _, _ => rfl
  | [], y :: ys, _, _, _, py, h => by
    have := h y.1
    rw [ofF_head] at this
    have := py y (by simp)
    simp only [ofF] at *
    omega
  | x :: xs, [], _, _, px, _, h => by
    have := h x.1
    rw [ofF_head] at this
    have := px x (by simp)
    simp only [ofF] at *
    omega
  | x :: xs, y :: ys, hx, hy, px, py, h => by
    have p1 := px x (by simp)
    have p2 := py y (by simp)
    have h1 := h x.1
    have h2 := h y.1
    rw [ofF_head] at h1 h2
    rcases cmpId_three x.1 y.1 with c | c | c
    · rw [ofF_ahead hy (by omega)] at h1; omega
    · have e := (cmpId_zero _ _).mp c
      rw [e, ofF_head] at h1
      have exy : x = y := Prod.ext e h1
      subst exy
      congr 1
      refine vec_ext hx.tail hy.tail px.tail py.tail fun a => ?_
      by_cases ha : x.1 = a
      · rw [← ha, ofF_tail hx, ofF_tail hy]
      · have := h a
        rwa [ofF_cons_ne ha, ofF_cons_ne ha] at this
    · have c' := cmpId_neg x.1 y.1
      rw [ofF_ahead hx (by omega)] at h2; omega

theorem mem_join : ∀ (xs ys : List At) {z : At}, z ∈ joinF xs ys → z ∈ xs ∨ z ∈ ys ∨ ∃ x ∈ xs, ∃ y ∈ ys, x.1 = y.1 ∧ z = (x.1, max x.2 y.2)
  | [], ys, z, h => by rw [joinF] at h; exact Or.inr (Or.inl h)
  | x :: xs, [], z, h => by rw [joinF_nil] at h; exact Or.inl h
  | x :: xs, y :: ys, z, h => by
    rcases cmpId_three x.1 y.1 with c | c | c
    · rw [joinF_lt (by omega)] at h
      rcases List.mem_cons.mp h with rfl | h
      · exact Or.inl (by simp)
      · rcases mem_join xs (y :: ys) h with h | h | ⟨u, hu, v, hv, e⟩
        · exact Or.inl (by simp [h])
        · exact Or.inr (Or.inl h)
        · exact Or.inr (Or.inr ⟨u, by simp [hu], v, hv, e⟩)
    · rw [joinF_eq c] at h
      rcases List.mem_cons.mp h with rfl | h
      · exact Or.inr (Or.inr ⟨x, by simp, y, by simp, (cmpId_zero _ _).mp c, rfl⟩)
      · rcases mem_join xs ys h with h | h | ⟨u, hu, v, hv, e⟩
        · exact Or.inl (by simp [h])
        · exact Or.inr (Or.inl (by simp [h]))
        · exact Or.inr (Or.inr ⟨u, by simp [hu], v, by simp [hv], e⟩)
    · rw [joinF_gt (by omega)] at h
      rcases List.mem_cons.mp h with rfl | h
      · exact Or.inr (Or.inl (by simp))
      · rcases mem_join (x :: xs) ys h with h | h | ⟨u, hu, v, hv, e⟩
        · exact Or.inl h
        · exact Or.inr (Or.inl (by simp [h]))
        · exact Or.inr (Or.inr ⟨u, hu, v, by simp [hv], e⟩)
  termination_by xs ys => xs.length + ys.length
theorem join_id {xs ys : List At} {z : At} (h : z ∈ joinF xs ys) : (∃ x ∈ xs, x.1 = z.1) ∨ ∃ y ∈ ys, y.1 = z.1 := by
  rcases mem_join xs ys h with h | h | ⟨u, hu, v, hv, e, rfl⟩
  · exact Or.inl ⟨z, h, rfl⟩
  · exact Or.inr ⟨z, h, rfl⟩
  · exact Or.inl ⟨u, hu, rfl⟩
theorem rising_join : ∀ {xs ys : List At}, Rising xs → Rising ys → Rising (joinF xs ys)
  | [], ys, _, hy => by rw [joinF]; exact hy
  | x :: xs, [], hx, _ => by rw [joinF_nil]; exact hx
  | x :: xs, y :: ys, hx, hy => by
    have hx1 := (List.pairwise_cons.mp hx).1
    have hy1 := (List.pairwise_cons.mp hy).1
    rcases cmpId_three x.1 y.1 with c | c | c
    · rw [joinF_lt (by omega)]
      refine List.pairwise_cons.mpr ⟨fun z hz => ?_, rising_join hx.tail hy⟩
      rcases join_id hz with ⟨u, hu, e⟩ | ⟨u, hu, e⟩
      · rw [← e]; exact hx1 u hu
      · rw [← e]
        rcases List.mem_cons.mp hu with rfl | hu
        · omega
        · exact cmpId_lt _ _ _ (show cmpId x.1 y.1 < 0 by omega) (by have := hy1 u hu; omega)
    · rw [joinF_eq c]
      have e := (cmpId_zero _ _).mp c
      refine List.pairwise_cons.mpr ⟨fun z hz => ?_, rising_join hx.tail hy.tail⟩
      rcases join_id hz with ⟨u, hu, e2⟩ | ⟨u, hu, e2⟩
      · rw [← e2]; exact hx1 u hu
      · rw [← e2]; show cmpId x.1 u.1 < 0; rw [e]; exact hy1 u hu
    · rw [joinF_gt (by omega)]
      have c' := cmpId_neg x.1 y.1
      refine List.pairwise_cons.mpr ⟨fun z hz => ?_, rising_join hx hy.tail⟩
      rcases join_id hz with ⟨u, hu, e⟩ | ⟨u, hu, e⟩
      · rw [← e]
        rcases List.mem_cons.mp hu with rfl | hu
        · omega
        · exact cmpId_lt _ _ _ (show cmpId y.1 x.1 < 0 by omega) (by have := hx1 u hu; omega)
      · rw [← e]; exact hy1 u hu
  termination_by xs ys => xs.length + ys.length
theorem pos_join {xs ys : List At} (px : Pos xs) (py : Pos ys) : Pos (joinF xs ys) := fun z hz => by
  rcases mem_join xs ys hz with h | h | ⟨u, hu, v, hv, _, rfl⟩
  · exact px z h
  · exact py z h
  · have := px u hu; show 1 ≤ max u.2 v.2; omega
theorem ofF_join : ∀ {xs ys : List At}, Rising xs → Rising ys → Pos xs → Pos ys → ∀ a, ofF (joinF xs ys) a = max (ofF xs a) (ofF ys a)
  | [], ys, _, _, _, py, a => by rw [joinF]; have := ofF_nonneg py a; simp only [ofF]; omega
  | x :: xs, [], _, _, px, _, a => by rw [joinF_nil]; have := ofF_nonneg px a; simp only [ofF] at *; omega
  | x :: xs, y :: ys, hx, hy, px, py, a => by
    have p1 := px x (by simp)
    have p2 := py y (by simp)
    rcases cmpId_three x.1 y.1 with c | c | c
    · rw [joinF_lt (by omega)]
      by_cases ha : x.1 = a
      · subst ha
        rw [ofF_head, ofF_head, ofF_ahead hy (by omega)]; omega
      · rw [ofF_cons_ne ha, ofF_cons_ne ha, ofF_join hx.tail hy px.tail py a]
    · rw [joinF_eq c]
      have e := (cmpId_zero _ _).mp c
      by_cases ha : x.1 = a
      · subst ha
        rw [ofF, if_pos rfl, ofF_head, e, ofF_head]
      · rw [ofF_cons_ne (x := (x.1, max x.2 y.2)) ha, ofF_cons_ne ha, ofF_cons_ne (show y.1 ≠ a by rw [← e]; exact ha), ofF_join hx.tail hy.tail px.tail py.tail a]
    · rw [joinF_gt (by omega)]
      have c' := cmpId_neg x.1 y.1
      by_cases ha : y.1 = a
      · subst ha
        rw [ofF_head, ofF_head, ofF_ahead hx (by omega)]; omega
      · rw [ofF_cons_ne ha, ofF_cons_ne (x := y) ha, ofF_join hx hy.tail px py.tail a]
  termination_by xs ys => xs.length + ys.length
theorem join_len : ∀ (xs ys : List At), (joinF xs ys).length ≤ xs.length + ys.length
  | [], ys => by rw [joinF]; simp
  | x :: xs, [] => by rw [joinF_nil]; simp
  | x :: xs, y :: ys => by
    rcases cmpId_three x.1 y.1 with c | c | c
    · rw [joinF_lt (by omega)]; have := join_len xs (y :: ys); simp at this ⊢; omega
    · rw [joinF_eq c]; have := join_len xs ys; simp at this ⊢; omega
    · rw [joinF_gt (by omega)]; have := join_len (x :: xs) ys; simp at this ⊢; omega
  termination_by xs ys => xs.length + ys.length

theorem rising_drop {zs : List At} (h : Rising zs) (a : ByteArray) : Rising (dropFV zs a) := List.Pairwise.filter _ h
theorem pos_drop {zs : List At} (h : Pos zs) (a : ByteArray) : Pos (dropFV zs a) := fun x hx => h x (List.mem_filter.mp hx).1
theorem drop_ne {zs : List At} {a : ByteArray} {x : At} (h : x ∈ dropFV zs a) : x.1 ≠ a := by
  have := (List.mem_filter.mp h).2; simpa using this
theorem ofF_drop (zs : List At) (a b : ByteArray) : ofF (dropFV zs a) b = if b = a then 0 else ofF zs b := by
  by_cases e : b = a
  · subst e; rw [if_pos rfl]; exact ofF_none fun x hx => drop_ne hx
  · rw [if_neg e]
    induction zs with
    | nil => rfl
    | cons x r ih =>
      by_cases hx : x.1 = a
      · rw [dropFV, List.filter_cons, if_neg (by simpa using hx), ofF_cons_ne (fun h => e (h.symm.trans hx))]; exact ih
      · rw [dropFV, List.filter_cons, if_pos (by simpa using hx)]
        by_cases hb : x.1 = b
        · rw [ofF, if_pos hb, ofF, if_pos hb]
        · rw [ofF_cons_ne hb, ofF_cons_ne hb]; exact ih

theorem mem_meet {zs ys : List At} {z : At} (h : z ∈ meetF zs ys) : ∃ x ∈ zs, x.1 = z.1 ∧ z.2 = min x.2 (ofF ys x.1) ∧ 1 ≤ z.2 := by
  obtain ⟨x, hx, e⟩ := List.mem_filterMap.mp h
  by_cases hp : 0 < min x.2 (ofF ys x.1)
  · rw [if_pos hp] at e; injection e with e; subst e; exact ⟨x, hx, rfl, rfl, by show 1 ≤ min x.2 (ofF ys x.1); omega⟩
  · rw [if_neg hp] at e; cases e
theorem rising_meet : ∀ {zs : List At} (ys : List At), Rising zs → Rising (meetF zs ys)
  | [], _, _ => List.Pairwise.nil
  | x :: zs, ys, h => by
    have ih := rising_meet ys h.tail
    rw [meetF, List.filterMap_cons]
    split
    · exact ih
    · rename_i b hb
      refine List.pairwise_cons.mpr ⟨fun z hz => ?_, ih⟩
      have hb1 : b.1 = x.1 := by
        split at hb
        · injection hb with hb; rw [← hb]
        · cases hb
      obtain ⟨u, hu, e, _⟩ := mem_meet hz
      rw [hb1, ← e]
      exact (List.pairwise_cons.mp h).1 u hu
theorem pos_meet {zs ys : List At} : Pos (meetF zs ys) := fun z hz => by obtain ⟨_, _, _, _, h⟩ := mem_meet hz; exact h
theorem ofF_meet : ∀ {zs ys : List At}, Rising zs → Pos zs → Pos ys → ∀ a, ofF (meetF zs ys) a = min (ofF zs a) (ofF ys a)
  | [], ys, _, _, py, a => by have := ofF_nonneg py a; simp only [meetF, List.filterMap_nil, ofF]; omega
  | x :: zs, ys, h, px, py, a => by
    have ih := ofF_meet h.tail px.tail py a
    have p1 := px x (by simp)
    have py0 := ofF_nonneg py a
    have e : meetF (x :: zs) ys = if 0 < min x.2 (ofF ys x.1) then (x.1, min x.2 (ofF ys x.1)) :: meetF zs ys else meetF zs ys := by
      rw [meetF, List.filterMap_cons]
      by_cases hp : 0 < min x.2 (ofF ys x.1)
      · simp only [hp, if_true]; rfl
      · simp only [hp, if_false]; rfl
    rw [e]
    by_cases ha : x.1 = a
    · subst ha
      rw [ofF_head]
      by_cases hp : 0 < min x.2 (ofF ys x.1)
      · rw [if_pos hp, ofF, if_pos rfl]
      · rw [if_neg hp, ih, ofF_tail h]; omega
    · rw [ofF_cons_ne ha]
      by_cases hp : 0 < min x.2 (ofF ys x.1)
      · rw [if_pos hp, ofF_cons_ne (x := (x.1, min x.2 (ofF ys x.1))) ha, ih]
      · rw [if_neg hp, ih]

/-- One is just so far. -/
def putV (zs : List At) (a : ByteArray) (z : Int) : List At := if z < 1 then dropFV zs a else joinF (dropFV zs a) [(a, z)]
theorem rising_one (x : At) : Rising [x] := List.pairwise_singleton _ _
theorem pos_one {x : At} (h : 1 ≤ x.2) : Pos [x] := fun y hy => by simp at hy; subst hy; exact h
theorem rising_put {zs : List At} (h : Rising zs) (a : ByteArray) (z : Int) : Rising (putV zs a z) := by
  unfold putV; split
  · exact rising_drop h a
  · exact rising_join (rising_drop h a) (rising_one _)
theorem pos_put {zs : List At} (h : Pos zs) (a : ByteArray) (z : Int) : Pos (putV zs a z) := by
  unfold putV; split
  · exact pos_drop h a
  · exact pos_join (pos_drop h a) (pos_one (by show 1 ≤ z; omega))
theorem ofF_put {zs : List At} (h : Rising zs) (p : Pos zs) (a : ByteArray) (z : Int) (b : ByteArray) : ofF (putV zs a z) b = if b = a then max z 0 else ofF zs b := by
  unfold putV
  split
  · rw [ofF_drop]; split <;> omega
  · rw [ofF_join (rising_drop h a) (rising_one _) (pos_drop p a) (pos_one (by show 1 ≤ z; omega)), ofF_drop]
    by_cases e : b = a
    · subst e; rw [if_pos rfl, if_pos rfl, ofF, if_pos rfl]; omega
    · rw [if_neg e, if_neg e, ofF_cons_ne (fun h => e h.symm)]
      have := ofF_nonneg p b
      simp only [ofF]; omega
theorem put_lenV (zs : List At) (a : ByteArray) (z : Int) : (putV zs a z).length ≤ zs.length + 1 := by
  unfold putV; have := dropF_len zs a; split
  · omega
  · have := join_len (dropFV zs a) [(a, z)]; simp at this; omega

theorem ofF_split (pre post : List At) (x : At) (b : ByteArray) (h : ∀ y ∈ pre ++ post, y.1 ≠ x.1) : ofF (pre ++ x :: post) b = if b = x.1 then x.2 else ofF (pre ++ post) b := by
  induction pre with
  | nil =>
    simp only [List.nil_append]
    by_cases e : b = x.1
    · subst e; rw [if_pos rfl, ofF_head]
    · rw [if_neg e, ofF_cons_ne (fun h => e h.symm)]
  | cons y r ih =>
    have hy := h y (by simp)
    have ih' := ih fun z hz => h z (by simp at hz ⊢; exact Or.inr hz)
    rw [List.cons_append, List.cons_append]
    by_cases hb : y.1 = b
    · rw [ofF, if_pos hb, ofF, if_pos hb, if_neg (fun e => hy (hb.trans e))]
    · rw [ofF_cons_ne hb, ofF_cons_ne hb]; exact ih'
/-- What put leaves of a rising row. -/
theorem put_is {zs : List At} {a : ByteArray} {z : Int} {r : List At} (h : Rising zs) (p : Pos zs) (hz : 1 ≤ z) (hr : PutIs (dropFV zs a) (a, z) r) : r = putV zs a z := by
  obtain ⟨pre, post, hd, rfl, hpost, hlast⟩ := hr
  have hR := rising_drop h a
  have hP := pos_drop p a
  have hne : ∀ y ∈ pre ++ post, y.1 ≠ a := fun y hy => by rw [hd] at hy; exact drop_ne hy
  rw [← hd] at hR hP
  have hR2 := List.pairwise_append.mp hR
  refine vec_ext ?_ (rising_put h a z) ?_ (pos_put p a z) fun b => ?_
  · refine List.pairwise_append.mpr ⟨hR2.1, List.pairwise_cons.mpr ⟨fun y hy => ?_, hR2.2.1⟩, fun y hy v hv => ?_⟩
    · have h1 : 0 < cmpId y.1 a := hpost y hy
      have h2 := cmpId_neg y.1 a
      show cmpId a y.1 < 0
      omega
    · rcases List.mem_cons.mp hv with rfl | hv
      · show cmpId y.1 a < 0
        rcases List.eq_nil_or_concat pre with e | ⟨p', l, e⟩
        · subst e; simp at hy
        · rw [List.concat_eq_append] at e
          subst e
          have h1 : cmpId l.1 a ≤ 0 := hlast l (by simp)
          have h2 : cmpId l.1 a ≠ 0 := fun e => hne l (by simp) ((cmpId_zero _ _).mp e)
          rcases List.mem_append.mp hy with hy | hy
          · have h3 := (List.pairwise_append.mp hR2.1).2.2 y hy l (by simp)
            exact cmpId_lt _ _ _ h3 h1
          · simp at hy; subst hy; omega
      · exact hR2.2.2 y hy v hv
  · intro y hy
    rcases List.mem_append.mp hy with hy | hy
    · exact hP y (by simp [hy])
    · rcases List.mem_cons.mp hy with rfl | hy
      · exact hz
      · exact hP y (by simp [hy])
  · rw [ofF_put h p, ofF_split _ _ _ _ hne, hd, ofF_drop]
    by_cases e : b = a
    · subst e; rw [if_pos rfl, if_pos rfl]; show z = max z 0; omega
    · rw [if_neg e, if_neg e, if_neg e]

theorem within_iff {xs ys : List At} (hx : Rising xs) (py : Pos ys) : withinFV xs ys = true ↔ ∀ a, ofF xs a ≤ ofF ys a := by
  unfold withinFV
  rw [List.all_eq_true]
  constructor
  · intro h a
    by_cases h0 : ofF xs a = 0
    · rw [h0]; exact ofF_nonneg py a
    · obtain ⟨x, hxm, rfl⟩ := ofF_pos h0
      rw [ofF_mem hx hxm]
      simpa using h x hxm
  · intro h x hxm
    have := h x.1
    rw [ofF_mem hx hxm] at this
    simpa using this

theorem right_iff (zs : List At) : rightVV zs = true ↔ Rising zs ∧ ∀ x ∈ zs, okAt x = true := by
  rw [rightV_iff]
  constructor
  · intro h
    refine ⟨List.pairwise_iff_getElem.mpr fun i j hi hj hij => ?_, fun x hx => ?_⟩
    · have key : ∀ m, i + m + 1 < zs.length → cmpId (zs.getD i atNil).1 (zs.getD (i + m + 1) atNil).1 < 0 := by
        intro m
        induction m with
        | zero => intro hm; have := (h (i + 1) hm).2 (by omega); simpa using this
        | succ m ih =>
          intro hm
          have h1 := ih (by omega)
          have h2 := (h (i + (m + 1) + 1) hm).2 (by omega)
          exact cmpId_lt _ _ _ h1 (by rw [show i + (m + 1) + 1 - 1 = i + m + 1 by omega] at h2; omega)
      have := key (j - i - 1) (by omega)
      rw [show i + (j - i - 1) + 1 = j by omega] at this
      simpa [List.getD_eq_getElem?_getD, hi, hj] using this
    · obtain ⟨k, hk, e⟩ := mem_getD hx
      rw [← e]; exact (h k hk).1
  · rintro ⟨h1, h2⟩ j hj
    exact ⟨h2 _ (getD_mem hj), fun h0 => rising_lt h1 (j - 1) j (by omega) hj⟩
theorem okAt_pos {x : At} (h : okAt x = true) : 1 ≤ x.2 ∧ x.2 ≤ 1048576 ∧ rightL x.1.data.toList = true := by
  unfold okAt at h; simp at h; exact ⟨h.2.1, h.2.2, h.1⟩
end Go.Proofs.Ytpaiigminmakgaa

/- The document's put, Set and Within of a right Vec; the law's From. -/
namespace Go.Proofs.Ytpaiigminmakgaa
open Go.RowKit

/-- A Vec that may be. -/
def Good (zs : List At) : Prop := Rising zs ∧ ∀ x ∈ zs, okAt x = true
theorem Good.pos {zs : List At} (h : Good zs) : Pos zs := fun x hx => (okAt_pos (h.2 x hx)).1
theorem right_len {l : List UInt8} (h : rightL l = true) : l.length ≤ 6 := ((rightL_iff l).mp h).1.2.1
theorem Good.short {zs : List At} (h : Good zs) : Short zs := fun k => by
  by_cases hk : k < zs.length
  · have h1 := right_len (okAt_pos (h.2 _ (getD_mem hk))).2.2
    have h2 : (zs.getD k atNil).1.size = (zs.getD k atNil).1.data.toList.length := Lib.size_eq _
    omega
  · rw [List.getD_eq_getElem?_getD, List.getElem?_eq_none (by omega)]
    show 0 ≤ _
    omega
theorem okAt_mk {a : ByteArray} {z : Int} (ha : rightL a.data.toList = true) (h1 : 1 ≤ z) (h2 : z ≤ 1048576) : okAt (a, z) = true := okAt_yes ha (by show ¬ z < 1; omega) (by show ¬ 1048576 < z; omega)
theorem Good.nil : Good [] := ⟨List.Pairwise.nil, fun x hx => by simp at hx⟩
theorem Good.join {xs ys : List At} (hx : Good xs) (hy : Good ys) : Good (joinF xs ys) := ⟨rising_join hx.1 hy.1, fun z hz => by
  rcases mem_join xs ys hz with h | h | ⟨u, hu, v, hv, _, rfl⟩
  · exact hx.2 z h
  · exact hy.2 z h
  · have h1 := okAt_pos (hx.2 u hu); have h2 := okAt_pos (hy.2 v hv); exact okAt_mk h1.2.2 (by omega) (by omega)⟩
theorem Good.drop {zs : List At} (h : Good zs) (a : ByteArray) : Good (dropFV zs a) := ⟨rising_drop h.1 a, fun x hx => h.2 x (List.mem_filter.mp hx).1⟩
theorem Good.meet {zs : List At} (h : Good zs) (ys : List At) : Good (meetF zs ys) := ⟨rising_meet ys h.1, fun z hz => by
  obtain ⟨x, hx, e1, e2, e3⟩ := mem_meet hz
  have h1 := okAt_pos (h.2 x hx)
  have : z = (z.1, z.2) := rfl
  rw [this]
  exact okAt_mk (by rw [← e1]; exact h1.2.2) e3 (by omega)⟩
theorem good_one {a : ByteArray} {z : Int} (ha : rightL a.data.toList = true) (h1 : 1 ≤ z) (h2 : z ≤ 1048576) : Good [(a, z)] := ⟨rising_one _, fun x hx => by simp at hx; subst hx; exact okAt_mk ha h1 h2⟩
theorem Good.put {zs : List At} (h : Good zs) {a : ByteArray} {z : Int} (ha : rightL a.data.toList = true) (h2 : z ≤ 1048576) : Good (putV zs a z) := by
  unfold putV; split
  · exact h.drop a
  · exact (h.drop a).join (good_one ha (by omega) h2)
theorem good_iff (zs : List At) : rightVV zs = true ↔ Good zs := right_iff zs
theorem good_ofF {zs : List At} (h : Good zs) (a : ByteArray) : 0 ≤ ofF zs a ∧ ofF zs a ≤ 1048576 := by
  refine ⟨ofF_nonneg h.pos a, ?_⟩
  by_cases h0 : ofF zs a = 0
  · omega
  · obtain ⟨x, hx, rfl⟩ := ofF_pos h0
    rw [ofF_mem h.1 hx]
    have := okAt_pos (h.2 x hx); omega
theorem Good.ext {xs ys : List At} (hx : Good xs) (hy : Good ys) (h : ∀ a, ofF xs a = ofF ys a) : xs = ys := vec_ext hx.1 hy.1 hx.pos hy.pos h

theorem own_empty (w : World) (B : Nat) (e : TypeId) (hB : B ≤ w.heap.size) : (w.alloc (.cells #[] e)).ownsRow B e 2 (.slice (some ⟨w.heap.size, 0, none⟩) 0 0) 0 (atCells []) :=
  ⟨rfl, .inr ⟨w.heap.size, 0, #[], rfl, hB, heap_alloc_new w _, Nat.le_refl _, by unfold maxLen; omega, rfl, rfl⟩⟩

theorem set_put {zs : List At} (h : Good zs) {a : ByteArray} {n : Int} (ha : rightL a.data.toList = true) (h1 : 1 ≤ n) : setF zs a n = putV zs a (max (ofF zs a) (min n 1048576)) := by
  have g := good_ofF h a
  unfold setF
  rw [if_pos ⟨ha, h1⟩]
  refine Good.ext (h.join (good_one ha (by omega) (by omega))) (h.put ha (by omega)) fun b => ?_
  rw [ofF_join h.1 (rising_one _) h.pos (pos_one (by show 1 ≤ min n 1048576; omega)), ofF_put h.1 h.pos]
  by_cases e : b = a
  · subst e; rw [if_pos rfl, ofF, if_pos rfl]; simp only; omega
  · rw [if_neg e, ofF_cons_ne (fun h => e h.symm)]
    have := ofF_nonneg h.pos b
    simp only [ofF]; omega

end Go.Proofs.Ytpaiigminmakgaa

/- The law's From; whether two Vecs are the same. -/
namespace Go.Proofs.Ytpaiigminmakgaa
open Go.RowKit

end Go.Proofs.Ytpaiigminmakgaa

/- The document's Fix, Join and Meet of Vecs. -/
namespace Go.Proofs.Ytpaiigminmakgaa
open Go.RowKit

/-- How far Fix puts one. -/
def elV (y : Int) : Int := IntKind.i64.wrap (1 + IntKind.i64.wrap ((IntKind.u64.wrap y).tmod 1000))
theorem elV_bd (y : Int) : 1 ≤ elV y ∧ elV y ≤ 1000 := by
  have hw : 0 ≤ IntKind.u64.wrap y := by
    have := IntKind.wrap_u64 y
    omega
  have h2 := Int.tmod_nonneg 1000 hw
  have h3 := Int.tmod_lt_of_pos (IntKind.u64.wrap y) (show (0 : Int) < 1000 by omega)
  unfold elV
  rw [IntWalk.i64_in ((IntKind.u64.wrap y).tmod 1000) (by omega), IntWalk.i64_in _ (by omega)]
  omega
theorem put1_is (s x : ByteArray) (h : Hid (ByteArray.mk (fixL s.data.toList).toArray = x)) (w : World) :
    Calls Try.prog 36 #[.string s] w fun e w' => e = .returned (.string x) ∧ Hid (Drawn w w') := by
  rw [← h.out]; exact fix_any s w

/-- A Vec that may be, of at most so many, in a row of the call's own. -/
def GoodVec (B : Nat) (ty : TypeId) (m : Nat) (w : World) (e : Ending) (w' : World) : Prop := ∃ r, Good r ∧ r.length ≤ m ∧ OwnVec B ty r w e w'

end Go.Proofs.Ytpaiigminmakgaa

/- The document's Join and Meet of Vecs that may be. -/
namespace Go.Proofs.Ytpaiigminmakgaa
open Go.RowKit

theorem take_ne {ys : List At} (h : Rising ys) {k : Nat} (hk : k < ys.length) : ∀ u ∈ ys.take k, u.1 ≠ (ys.getD k atNil).1 := by
  intro u hu
  obtain ⟨i, hi, rfl⟩ := mem_getD hu
  rw [List.length_take] at hi
  have h1 := rising_lt h i k (by omega) hk
  have h2 : (ys.take k).getD i atNil = ys.getD i atNil := by
    rw [List.getD_eq_getElem?_getD, List.getD_eq_getElem?_getD, List.getElem?_take_of_lt (by omega)]
  rw [h2]
  intro e
  rw [e, cmpId_self] at h1
  omega
theorem ofF_take0 {ys : List At} (h : Rising ys) {k : Nat} (hk : k < ys.length) : ofF (ys.take k) (ys.getD k atNil).1 = 0 := ofF_none (take_ne h hk)
theorem ofF_take {ys : List At} (h : Rising ys) {k : Nat} (hk : k < ys.length) (c : ByteArray) : ofF (ys.take (k + 1)) c = if c = (ys.getD k atNil).1 then (ys.getD k atNil).2 else ofF (ys.take k) c := by
  rw [take_snoc hk]
  have := ofF_split (ys.take k) [] (ys.getD k atNil) c (fun u hu => by rw [List.append_nil] at hu; exact take_ne h hk u hu)
  rwa [List.append_nil] at this
theorem join_step {xs ys out : List At} {k : Nat} {y : At} {z o : Int} (gx : Pos xs) (go : Good out) (hf : ∀ c, ofF out c = max (ofF xs c) (ofF (ys.take k) c)) (hot : ∀ c, ofF (ys.take (k + 1)) c = if c = y.1 then y.2 else ofF (ys.take k) c) (h0 : ofF (ys.take k) y.1 = 0)
    (ho : ofF out y.1 = o) (hy : 1 ≤ y.2) (hz : z = max o y.2) : ∀ c, ofF (putV out y.1 z) c = max (ofF xs c) (ofF (ys.take (k + 1)) c) := fun c => by
  rw [ofF_put go.1 go.pos, hot c]
  by_cases e : c = y.1
  · subst e
    rw [if_pos rfl, if_pos rfl]
    have h1 := hf y.1
    have h5 := ofF_nonneg gx y.1
    omega
  · rw [if_neg e, if_neg e]; exact hf c
theorem meet_step2 {xs ys out : List At} {k : Nat} {x : At} {z o : Int} (gy : Pos ys) (go : Good out) (hf : ∀ c, ofF out c = min (ofF (xs.take k) c) (ofF ys c)) (hot : ∀ c, ofF (xs.take (k + 1)) c = if c = x.1 then x.2 else ofF (xs.take k) c)
    (ho : ofF ys x.1 = o) (hx : 1 ≤ x.2) (hz : z = min x.2 o) : ∀ c, ofF (putV out x.1 z) c = min (ofF (xs.take (k + 1)) c) (ofF ys c) := fun c => by
  rw [ofF_put go.1 go.pos, hot c]
  by_cases e : c = x.1
  · subst e
    rw [if_pos rfl, if_pos rfl]
    have h5 := ofF_nonneg gy x.1
    omega
  · rw [if_neg e, if_neg e]; exact hf c

end Go.Proofs.Ytpaiigminmakgaa

/- Rows that are at hand, all together. -/
namespace Go.Proofs.Ytpaiigminmakgaa
open Go.RowKit

/-- These rows are there. -/
def Vs (w : World) (vs : List (Option Addr × List At)) : Prop := ∀ v ∈ vs, VecAt w w.heap.size v.1 v.2.length v.2
theorem Vs.nil (w : World) : Vs w [] := fun v hv => by simp at hv
theorem Vs.keep {w w1 : World} {vs : List (Option Addr × List At)} (h : Vs w vs) (hb : Below w.heap.size w w1) : Vs w1 vs := fun v hv => ((h v hv).keep hb).more hb.size
theorem Vs.own {w w1 : World} {vs : List (Option Addr × List At)} {B c : Nat} {ty : TypeId} {A : Option Addr} {zs : List At} (h : Vs w vs) (ho : w1.ownsRow B ty 2 (.slice A zs.length c) zs.length (atCells zs)) (hb : Below w.heap.size w w1) : Vs w1 ((A, zs) :: vs) := fun v hv => by
  rcases List.mem_cons.mp hv with rfl | hv
  · exact own_vec ho
  · exact h.keep hb v hv
theorem Vs.get {w : World} {vs : List (Option Addr × List At)} {A : Option Addr} {zs : List At} (h : Vs w vs) (hm : (A, zs) ∈ vs) : VecAt w w.heap.size A zs.length zs := h _ hm
theorem Good.set {zs : List At} (h : Good zs) (a : ByteArray) (n : Int) : Good (setF zs a n) := by
  unfold setF; split
  · rename_i hr; exact h.join (good_one hr.1 (by omega) (by omega))
  · exact h
theorem set_len (zs : List At) (a : ByteArray) (n : Int) : (setF zs a n).length ≤ zs.length + 1 := by
  unfold setF; split
  · have := join_len zs [(a, min n 1048576)]; simp at this; omega
  · omega
theorem same_self (xs : List At) : decide (xs = xs) = true := decide_eq_true rfl
theorem same_true {xs ys : List At} (h : xs = ys) : Hid (decide (xs = ys) = true) := decide_eq_true h
theorem good_right {zs : List At} (h : Good zs) : Hid (rightVV zs = true) := (good_iff zs).mpr h
end Go.Proofs.Ytpaiigminmakgaa
