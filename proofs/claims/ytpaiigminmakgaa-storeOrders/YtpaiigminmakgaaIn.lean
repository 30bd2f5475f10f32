/- Plain mathematics of the names of layer 1: prefixes, the order, the document's Fix. -/
import Derived.Test.YtpaiigminmakgaaIm
namespace Go.Proofs.Ytpaiigminmakgaa

/-- Does b come from a? -/
def aboveL (a b : List UInt8) : Bool := rightL a && rightL b && decide (a.length < b.length) && Lib.hasPrefix b a

theorem aboveL_iff (a b : List UInt8) : aboveL a b = true ↔ rightL a = true ∧ rightL b = true ∧ a.length < b.length ∧ a <+: b := by
  unfold aboveL Lib.hasPrefix
  simp [and_assoc]

theorem above_len {a b : List UInt8} (h : b.length ≤ a.length) : aboveL a b = false := by
  rw [Bool.eq_false_iff]; intro e; have := (aboveL_iff _ _).mp e; omega
theorem above_trans {a b c : List UInt8} (h1 : aboveL a b = true) (h2 : aboveL b c = true) : aboveL a c = true := by
  obtain ⟨r1, _, l1, p1⟩ := (aboveL_iff _ _).mp h1
  obtain ⟨_, r2, l2, p2⟩ := (aboveL_iff _ _).mp h2
  exact (aboveL_iff _ _).mpr ⟨r1, r2, by omega, p1.trans p2⟩
theorem above_two {a b c : List UInt8} (h1 : aboveL a c = true) (h2 : aboveL b c = true) : a = b ∨ aboveL a b = true ∨ aboveL b a = true := by
  obtain ⟨r1, _, l1, p1⟩ := (aboveL_iff _ _).mp h1
  obtain ⟨r2, _, l2, p2⟩ := (aboveL_iff _ _).mp h2
  rcases Nat.lt_trichotomy a.length b.length with h | h | h
  · exact Or.inr (Or.inl ((aboveL_iff _ _).mpr ⟨r1, r2, h, List.prefix_of_prefix_length_le p1 p2 (by omega)⟩))
  · exact Or.inl ((List.prefix_of_prefix_length_le p1 p2 (by omega)).eq_of_length h)
  · exact Or.inr (Or.inr ((aboveL_iff _ _).mpr ⟨r2, r1, h, List.prefix_of_prefix_length_le p2 p1 (by omega)⟩))

theorem cmp_prefix : ∀ (a b : List UInt8), a <+: b → a.length < b.length → Lib.compareBytes a b = -1
  | [], _ :: _, _, _ => by simp [Lib.compareBytes]
  | x :: a, y :: b, h, l => by
    obtain ⟨rfl, h2⟩ := List.cons_prefix_cons.mp h
    unfold Lib.compareBytes
    simp only [UInt8.lt_irrefl, if_false]
    exact cmp_prefix a b h2 (by simpa using l)
theorem above_cmp {a b : List UInt8} (h : aboveL a b = true) : Lib.compareBytes a b = -1 := by
  obtain ⟨_, _, l, p⟩ := (aboveL_iff _ _).mp h
  exact cmp_prefix a b p l

theorem cmp_three : ∀ (a b : List UInt8), Lib.compareBytes a b = -1 ∨ Lib.compareBytes a b = 0 ∨ Lib.compareBytes a b = 1
  | [], [] => by simp [Lib.compareBytes]
  | [], _ :: _ => by simp [Lib.compareBytes]
  | _ :: _, [] => by simp [Lib.compareBytes]
  | x :: a, y :: b => by
    unfold Lib.compareBytes
    split
    · simp
    · split
      · simp
      · exact cmp_three a b
theorem cmp_zero : ∀ (a b : List UInt8), Lib.compareBytes a b = 0 ↔ a = b
  | [], [] => by simp [Lib.compareBytes]
  | [], _ :: _ => by simp [Lib.compareBytes]
  | _ :: _, [] => by simp [Lib.compareBytes]
  | x :: a, y :: b => by
    unfold Lib.compareBytes
    split
    · rename_i h
      have : x ≠ y := fun e => UInt8.lt_irrefl _ (e ▸ h)
      simp [this]
    · split
      · rename_i h
        have : x ≠ y := fun e => UInt8.lt_irrefl _ (e ▸ h)
        simp [this]
      · rename_i h1 h2
        have : x = y := by
          apply UInt8.toNat_inj.mp
          rw [UInt8.lt_iff_toNat_lt] at h1 h2
          omega
        rw [cmp_zero a b, this]; simp
theorem cmp_neg : ∀ (a b : List UInt8), Lib.compareBytes b a = - Lib.compareBytes a b
  | [], [] => by simp [Lib.compareBytes]
  | [], _ :: _ => by simp [Lib.compareBytes]
  | _ :: _, [] => by simp [Lib.compareBytes]
  | x :: a, y :: b => by
    unfold Lib.compareBytes
    by_cases h1 : x < y
    · have h2 : ¬ y < x := fun h => UInt8.lt_irrefl _ (UInt8.lt_trans h h1)
      simp [h1, h2]
    · by_cases h2 : y < x
      · simp [h1, h2]
      · simp [h1, h2, cmp_neg a b]
theorem cmp_trans : ∀ (a b c : List UInt8), Lib.compareBytes a b ≤ 0 → Lib.compareBytes b c ≤ 0 → Lib.compareBytes a c ≤ 0
  | [], _, [], _, _ => by simp [Lib.compareBytes]
  | [], _, _ :: _, _, _ => by simp [Lib.compareBytes]
  | _ :: _, [], _, h, _ => by simp [Lib.compareBytes] at h
  | _ :: _, _ :: _, [], _, h => by simp [Lib.compareBytes] at h
  | x :: a, y :: b, z :: c, h1, h2 => by
    unfold Lib.compareBytes at h1 h2 ⊢
    have key : ¬ y < x ∧ ¬ z < y ∧ (x < y ∨ Lib.compareBytes a b ≤ 0) ∧ (y < z ∨ Lib.compareBytes b c ≤ 0) := by
      refine ⟨fun h => ?_, fun h => ?_, ?_, ?_⟩
      · have h' : ¬ x < y := fun h' => UInt8.lt_irrefl _ (UInt8.lt_trans h h')
        simp [h, h'] at h1
      · have h' : ¬ y < z := fun h' => UInt8.lt_irrefl _ (UInt8.lt_trans h h')
        simp [h, h'] at h2
      · by_cases h : x < y
        · exact Or.inl h
        · right; by_cases h' : y < x
          · simp [h, h'] at h1
          · simpa [h, h'] using h1
      · by_cases h : y < z
        · exact Or.inl h
        · right; by_cases h' : z < y
          · simp [h, h'] at h2
          · simpa [h, h'] using h2
    obtain ⟨n1, n2, k1, k2⟩ := key
    by_cases hxz : x < z
    · simp [hxz]
    · have e1 : x = y := by apply UInt8.toNat_inj.mp; rw [UInt8.lt_iff_toNat_lt] at n1 n2 hxz; omega
      have e2 : y = z := by apply UInt8.toNat_inj.mp; rw [UInt8.lt_iff_toNat_lt] at n1 n2 hxz; omega
      subst e1 e2
      simp only [UInt8.lt_irrefl, false_or, if_false] at k1 k2 ⊢
      exact cmp_trans a b c k1 k2

/-- The order from a place on. -/
theorem cmp_lo {a b : List UInt8} {k : Nat} (ha : k < a.length) (hb : k < b.length) (h : at8 a k < at8 b k) : Lib.compareBytes (a.drop k) (b.drop k) = -1 := by
  rw [List.drop_eq_getElem_cons ha, List.drop_eq_getElem_cons hb]
  unfold Lib.compareBytes
  have : a[k] < b[k] := by
    rw [UInt8.lt_iff_toNat_lt]
    simpa [at8, List.getD_eq_getElem?_getD, ha, hb] using h
  simp [this]
theorem cmp_hi {a b : List UInt8} {k : Nat} (ha : k < a.length) (hb : k < b.length) (h : at8 b k < at8 a k) : Lib.compareBytes (a.drop k) (b.drop k) = 1 := by
  have := cmp_lo hb ha h
  rw [cmp_neg] at this
  omega
theorem cmp_eq {a b : List UInt8} {k : Nat} (ha : k < a.length) (hb : k < b.length) (h : at8 a k = at8 b k) : Lib.compareBytes (a.drop k) (b.drop k) = Lib.compareBytes (a.drop (k + 1)) (b.drop (k + 1)) := by
  rw [List.drop_eq_getElem_cons ha, List.drop_eq_getElem_cons hb]
  have : a[k] = b[k] := by
    apply UInt8.toNat_inj.mp
    simpa [at8, List.getD_eq_getElem?_getD, ha, hb] using h
  rw [Lib.compareBytes, this]
  simp [UInt8.lt_irrefl]
theorem cmp_end {a b : List UInt8} {k : Nat} (h : a.length ≤ k ∨ b.length ≤ k) (ha : k ≤ a.length) (hb : k ≤ b.length) : Lib.compareBytes (a.drop k) (b.drop k) = if a.length < b.length then -1 else if b.length < a.length then 1 else 0 := by
  rcases h with h | h
  · have e : a.length = k := by omega
    rw [List.drop_of_length_le (by omega)]
    by_cases hk : k < b.length
    · rw [List.drop_eq_getElem_cons hk]; simp [Lib.compareBytes]; omega
    · rw [List.drop_of_length_le (by omega)]; simp [Lib.compareBytes]
      rw [if_neg (by omega), if_neg (by omega)]
  · have e : b.length = k := by omega
    rw [List.drop_of_length_le (l := b) (by omega)]
    by_cases hk : k < a.length
    · rw [List.drop_eq_getElem_cons hk]; simp [Lib.compareBytes]; rw [if_neg (by omega), if_pos (by omega)]
    · rw [List.drop_of_length_le (by omega)]; simp [Lib.compareBytes]
      rw [if_neg (by omega), if_neg (by omega)]

/-- The document's Fix: a name out of any text. -/
def fixB (c : UInt8) : UInt8 := UInt8.ofNat (49 + c.toNat % 9)
def fixL (l : List UInt8) : List UInt8 := 48 :: (l.take 5).map fixB
theorem fixB_nat (c : UInt8) : (fixB c).toNat = 49 + c.toNat % 9 := by
  unfold fixB; rw [UInt8.toNat_ofNat']; omega
theorem fixL_len (l : List UInt8) : (fixL l).length = 1 + min 5 l.length := by simp [fixL]; omega
theorem fixL_right (l : List UInt8) : rightL (fixL l) = true := by
  rw [rightL_iff]
  have hl := fixL_len l
  refine ⟨⟨by omega, by omega, rfl⟩, fun j h1 h2 => ?_⟩
  obtain ⟨i, rfl⟩ : ∃ i, j = i + 1 := ⟨j - 1, by omega⟩
  have hi : i < ((l.take 5).map fixB).length := by simpa [fixL] using h2
  have : at8 (fixL l) (i + 1) = (((l.take 5).map fixB)[i]).toNat := by
    unfold at8 fixL
    rw [List.getD_cons_succ, List.getD_eq_getElem?_getD, List.getElem?_eq_getElem hi]; rfl
  rw [this, List.getElem_map, fixB_nat]
  omega

theorem take_right {l : List UInt8} {m : Nat} (h : rightL l = true) (h1 : 1 ≤ m) (h2 : m ≤ l.length) : rightL (l.take m) = true := by
  rw [rightL_iff] at h ⊢
  have hl : (l.take m).length = m := by rw [List.length_take]; omega
  have g : ∀ j, j < m → at8 (l.take m) j = at8 l j := fun j hj => by
    unfold at8
    rw [List.getD_eq_getElem?_getD, List.getD_eq_getElem?_getD, List.getElem?_take_of_lt hj]
  refine ⟨⟨by omega, by omega, by rw [g 0 (by omega)]; exact h.1.2.2⟩, fun j a b => ?_⟩
  rw [g j (by omega)]
  exact h.2 j a (by omega)
theorem above_take {l : List UInt8} {m : Nat} (h : rightL l = true) (h1 : 1 ≤ m) (h2 : m < l.length) : aboveL (l.take m) l = true :=
  (aboveL_iff _ _).mpr ⟨take_right h h1 (by omega), h, by rw [List.length_take]; omega, List.take_prefix _ _⟩
end Go.Proofs.Ytpaiigminmakgaa
