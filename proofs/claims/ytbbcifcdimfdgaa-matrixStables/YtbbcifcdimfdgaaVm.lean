/- Plain mathematics of rows of ids and numbers: the order of ids, rising rows, how far one is. -/
import Derived.Test.YtbbcifcdimfdgaaIn
import GoSem.Claim
namespace Go.Proofs.Ytbbcifcdimfdgaa

/-- The order of two ids. -/
def cmpId (a b : ByteArray) : Int := Lib.compareBytes a.data.toList b.data.toList
theorem cmpId_three (a b : ByteArray) : cmpId a b = -1 ∨ cmpId a b = 0 ∨ cmpId a b = 1 := cmp_three _ _
theorem cmpId_zero (a b : ByteArray) : cmpId a b = 0 ↔ a = b := by
  unfold cmpId
  rw [cmp_zero]
  constructor
  · intro h; exact ByteArray.ext (Array.ext' h)
  · rintro rfl; rfl
theorem cmpId_neg (a b : ByteArray) : cmpId b a = - cmpId a b := cmp_neg _ _
theorem cmpId_self (a : ByteArray) : cmpId a a = 0 := (cmpId_zero a a).mpr rfl
theorem cmpId_le (a b c : ByteArray) (h1 : cmpId a b ≤ 0) (h2 : cmpId b c ≤ 0) : cmpId a c ≤ 0 := cmp_trans _ _ _ h1 h2
theorem cmpId_lt (a b c : ByteArray) (h1 : cmpId a b < 0) (h2 : cmpId b c ≤ 0) : cmpId a c < 0 := by
  have h := cmpId_le a b c (by omega) h2
  rcases cmpId_three a c with e | e | e
  · omega
  · have := (cmpId_zero a c).mp e
    subst this
    have := cmpId_neg a b
    omega
  · omega
theorem cmpId_lt' (a b c : ByteArray) (h1 : cmpId a b ≤ 0) (h2 : cmpId b c < 0) : cmpId a c < 0 := by
  have h := cmpId_le a b c h1 (by omega)
  rcases cmpId_three a c with e | e | e
  · omega
  · have := (cmpId_zero a c).mp e
    subst this
    have := cmpId_neg a b
    omega
  · omega

abbrev At := ByteArray × Int
def atNil : At := (ByteArray.mk #[], 0)
/-- The ids rise, each stands once. -/
def Rising (zs : List At) : Prop := zs.Pairwise fun x y => cmpId x.1 y.1 < 0
/-- How far one is. -/
def ofF (zs : List At) (a : ByteArray) : Int := match zs with
  | [] => 0
  | x :: r => if x.1 = a then x.2 else ofF r a

theorem rising_lt {zs : List At} (hs : Rising zs) (i j : Nat) (hij : i < j) (hj : j < zs.length) : cmpId (zs.getD i atNil).1 (zs.getD j atNil).1 < 0 := by
  have := List.pairwise_iff_getElem.1 hs i j (by omega) hj hij
  simpa [List.getD_eq_getElem?_getD, List.getElem?_eq_getElem hj, List.getElem?_eq_getElem (show i < zs.length by omega)] using this
theorem ofF_none {zs : List At} {a : ByteArray} (h : ∀ x ∈ zs, x.1 ≠ a) : ofF zs a = 0 := by
  induction zs with
  | nil => rfl
  | cons x r ih => unfold ofF; rw [if_neg (h x (by simp))]; exact ih fun y hy => h y (by simp [hy])
theorem ofF_mem {zs : List At} {x : At} (hs : Rising zs) (h : x ∈ zs) : ofF zs x.1 = x.2 := by
  induction zs with
  | nil => simp at h
  | cons y r ih =>
    unfold ofF
    rcases List.mem_cons.mp h with rfl | h
    · rw [if_pos rfl]
    · have := (List.pairwise_cons.mp hs).1 x h
      rw [if_neg (fun e => by rw [e, cmpId_self] at this; omega)]
      exact ih (List.pairwise_cons.mp hs).2 h
theorem ofF_pos {zs : List At} {a : ByteArray} (h : ofF zs a ≠ 0) : ∃ x ∈ zs, x.1 = a := by
  induction zs with
  | nil => exact absurd rfl h
  | cons y r ih =>
    by_cases e : y.1 = a
    · exact ⟨y, by simp, e⟩
    · unfold ofF at h; rw [if_neg e] at h
      obtain ⟨x, hx, hxa⟩ := ih h
      exact ⟨x, by simp [hx], hxa⟩
theorem getD_mem {zs : List At} {k : Nat} (hk : k < zs.length) : zs.getD k atNil ∈ zs := by
  rw [List.getD_eq_getElem?_getD, List.getElem?_eq_getElem hk]; exact List.getElem_mem hk
theorem mem_getD {zs : List At} {x : At} (h : x ∈ zs) : ∃ k, k < zs.length ∧ zs.getD k atNil = x := by
  obtain ⟨k, hk, e⟩ := List.mem_iff_getElem.mp h
  exact ⟨k, hk, by rw [List.getD_eq_getElem?_getD, List.getElem?_eq_getElem hk]; exact e⟩

/-- What the binary search has found out: all below i lie ahead of a, all from j on don't. -/
def Parts (zs : List At) (a : ByteArray) (i j : Nat) : Prop := (∀ k, k < i → cmpId (zs.getD k atNil).1 a < 0) ∧ ∀ k, j ≤ k → k < zs.length → 0 ≤ cmpId (zs.getD k atNil).1 a
theorem parts_start (zs : List At) (a : ByteArray) : Parts zs a 0 zs.length := ⟨fun k hk => by omega, fun k hk hk2 => by omega⟩
theorem parts_lo {zs : List At} {a : ByteArray} {i j m : Nat} (hs : Rising zs) (h : Parts zs a i j) (hm : m < zs.length) (hc : cmpId (zs.getD m atNil).1 a < 0) : Parts zs a (m + 1) j := by
  refine ⟨fun k hk => ?_, h.2⟩
  rcases Nat.lt_or_ge k m with h1 | h1
  · exact cmpId_lt _ _ _ (rising_lt hs k m h1 hm) (by omega)
  · rw [show k = m by omega]; exact hc
theorem parts_hi {zs : List At} {a : ByteArray} {i j m : Nat} (hs : Rising zs) (h : Parts zs a i j) (hc : ¬ cmpId (zs.getD m atNil).1 a < 0) : Parts zs a i m := by
  refine ⟨h.1, fun k hk hk2 => ?_⟩
  rcases Nat.lt_or_ge m k with h1 | h1
  · have h2 := rising_lt hs m k h1 hk2
    rcases cmpId_three (zs.getD k atNil).1 a with e | e | e
    · have := cmpId_lt _ _ _ h2 (show cmpId (zs.getD k atNil).1 a ≤ 0 by omega); omega
    · omega
    · omega
  · rw [show k = m by omega]; omega
theorem parts_none {zs : List At} {a : ByteArray} {i : Nat} (hs : Rising zs) (h : Parts zs a i i) (hi : ¬ (i < zs.length ∧ cmpId (zs.getD i atNil).1 a = 0)) : ∀ x ∈ zs, x.1 ≠ a := by
  rintro x hx rfl
  obtain ⟨k, hk, e⟩ := mem_getD hx
  rcases Nat.lt_trichotomy k i with h1 | h1 | h1
  · have := h.1 k h1; rw [e, cmpId_self] at this; omega
  · subst h1; exact hi ⟨hk, by rw [e, cmpId_self]⟩
  · have h2 := h.2 i (Nat.le_refl _) (by omega)
    have h3 := rising_lt hs i k h1 hk
    rw [e] at h3
    omega

/-- What the binary search answers: the place, where there is one. -/
def Found (a : ByteArray) (zs : List At) (e : Ending) : Prop :=
  (∃ k : Nat, k < zs.length ∧ (zs.getD k atNil).1 = a ∧ e = .returned (.tuple #[.int .i64 k, .bool true])) ∨ ((∀ x ∈ zs, x.1 ≠ a) ∧ ∃ k : Nat, e = .returned (.tuple #[.int .i64 k, .bool false]))
end Go.Proofs.Ytbbcifcdimfdgaa
