/- Numbers as bytes: plain mathematics, no program in it. -/
import Derived.Test.YtophhjknbanafaaBa
namespace Go.Proofs.Ytophhjknbanafaa

/-- A number's digits of base 128, the lowest first, each but the last one 128 more. -/
def digitsF (n : Nat) : List UInt8 := if h : n < 128 then [UInt8.ofNat n] else UInt8.ofNat (n % 128 + 128) :: digitsF (n / 128)
termination_by n
decreasing_by omega

theorem digitsF_small {n : Nat} (h : n < 128) : digitsF n = [UInt8.ofNat n] := by rw [digitsF]; simp [h]
theorem digitsF_big {n : Nat} (h : 128 ≤ n) : digitsF n = UInt8.ofNat (n % 128 + 128) :: digitsF (n / 128) := by rw [digitsF]; simp [show ¬ n < 128 by omega]
theorem digitsF_pos (n : Nat) : 1 ≤ (digitsF n).length := by
  by_cases h : n < 128
  · rw [digitsF_small h]; simp
  · rw [digitsF_big (by omega)]; simp
theorem digitsF_len : ∀ (k n : Nat), n < 128 ^ (k + 1) → (digitsF n).length ≤ k + 1
  | 0, n, h => by rw [digitsF_small (by simpa using h)]; simp
  | k + 1, n, h => by
    by_cases hn : n < 128
    · rw [digitsF_small hn]; simp
    · rw [digitsF_big (by omega)]
      have h2 : n / 128 < 128 ^ (k + 1) := by
        rw [Nat.div_lt_iff_lt_mul (by omega)]
        rw [Nat.pow_succ] at h
        exact h
      have := digitsF_len k (n / 128) h2
      simp only [List.length_cons]
      omega

/-- The number that bytes begin with: the number, how many bytes it has, what is wrong. -/
def firstF : List UInt8 → Nat → Nat → Nat × Nat × Nat
  | [], _, _ => (0, 0, 2)
  | d :: r, k, acc =>
    if 128 ≤ d.toNat then (if k + 1 = 9 then (0, 0, 3) else firstF r (k + 1) (acc + d.toNat % 128 * 128 ^ k))
    else if d.toNat = 0 ∧ 0 < k then (0, 0, 3) else (acc + d.toNat % 128 * 128 ^ k, k + 1, 0)

theorem toNat_ofNat {n : Nat} (h : n < 256) : (UInt8.ofNat n).toNat = n := by simp; omega

/-- What is put is taken again. -/
theorem first_digits (rest : List UInt8) : ∀ (n k acc : Nat), n * 128 ^ k < 128 ^ 9 → k ≤ 8 → (n = 0 → k = 0) → firstF (digitsF n ++ rest) k acc = (acc + n * 128 ^ k, k + (digitsF n).length, 0) := by
  intro n
  induction n using Nat.strongRecOn with
  | _ n ih =>
    intro k acc hb hk hz
    by_cases h : n < 128
    · rw [digitsF_small h]
      simp only [List.cons_append, List.nil_append, List.length_cons, List.length_nil, firstF]
      rw [toNat_ofNat (by omega)]
      rw [if_neg (by omega), if_neg (by rintro ⟨h1, h2⟩; have := hz h1; omega), Nat.mod_eq_of_lt h]
    · rw [digitsF_big (by omega)]
      simp only [List.cons_append, List.length_cons, firstF]
      rw [toNat_ofNat (by omega), if_pos (by omega)]
      have e1 : n / 128 * 128 ^ (k + 1) ≤ n * 128 ^ k := by
        rw [Nat.pow_succ, Nat.mul_comm (128 ^ k) 128, ← Nat.mul_assoc]
        exact Nat.mul_le_mul_right _ (Nat.div_mul_le_self n 128)
      have hk9 : ¬ (k + 1 = 9) := by
        intro h9
        obtain rfl : k = 8 := by omega
        have e2 : 1 ≤ n / 128 := by omega
        have e3 : 128 ^ 9 ≤ n / 128 * 128 ^ 9 := Nat.le_mul_of_pos_left _ e2
        omega
      rw [if_neg hk9, ih (n / 128) (by omega) (k + 1) _ (by omega) (by omega) (by omega)]
      have e4 : n = n % 128 + 128 * (n / 128) := by omega
      have e5 : (n % 128 + 128) % 128 = n % 128 := by omega
      rw [e5]
      refine Prod.ext ?_ (Prod.ext ?_ rfl)
      · show acc + n % 128 * 128 ^ k + n / 128 * 128 ^ (k + 1) = acc + n * 128 ^ k
        conv => rhs; rw [e4]
        rw [Nat.pow_succ, Nat.add_mul, Nat.mul_comm (128 ^ k) 128, ← Nat.mul_assoc, Nat.mul_comm (n / 128) 128]
        omega
      · show k + 1 + _ = k + (_ + 1)
        omega

/-- What is taken is put by just its bytes. -/
theorem first_back : ∀ (bs : List UInt8) (k acc n s : Nat), firstF bs k acc = (n, s, 0) → ∃ m, n = acc + m * 128 ^ k ∧ s = k + (digitsF m).length ∧ bs.take (digitsF m).length = digitsF m ∧ (digitsF m).length ≤ bs.length ∧ (0 < k → 0 < m) := by
  intro bs
  induction bs with
  | nil => intro k acc n s h; simp [firstF] at h
  | cons d r ih =>
    intro k acc n s h
    have hd : d.toNat < 256 := d.toNat_lt
    unfold firstF at h
    split at h
    · rename_i h1
      split at h
      · simp at h
      · obtain ⟨m, hn, hs, ht, hl, hp⟩ := ih _ _ _ _ h
        have hm := hp (by omega)
        have hq : 128 ≤ d.toNat % 128 + 128 * m := by omega
        have e1 : (d.toNat % 128 + 128 * m) % 128 = d.toNat % 128 := by omega
        have e2 : (d.toNat % 128 + 128 * m) / 128 = m := by omega
        refine ⟨d.toNat % 128 + 128 * m, ?_, ?_, ?_, ?_, fun _ => by omega⟩
        · rw [hn, Nat.pow_succ, Nat.add_mul, Nat.mul_comm (128 ^ k) 128, ← Nat.mul_assoc, Nat.mul_comm m 128]
          omega
        · rw [digitsF_big hq, e2, hs]; simp only [List.length_cons]; omega
        · rw [digitsF_big hq, e2, e1]
          simp only [List.length_cons, List.take_succ_cons, ht]
          congr 1
          rw [show d.toNat % 128 + 128 = d.toNat by omega]
          simp
        · rw [digitsF_big hq, e2]; simp only [List.length_cons]; omega
    · rename_i h1
      split at h
      · simp at h
      · rename_i h2
        injection h with h3 h4
        injection h4 with h4 _
        refine ⟨d.toNat, by rw [← h3, Nat.mod_eq_of_lt (by omega)], ?_, ?_, ?_, fun hk => ?_⟩
        · rw [digitsF_small (by omega), ← h4]; simp
        · rw [digitsF_small (by omega)]; simp
        · rw [digitsF_small (by omega)]; simp
        · rcases Nat.eq_zero_or_pos d.toNat with h5 | h5
          · exact absurd ⟨h5, hk⟩ h2
          · exact h5

theorem first_bound : ∀ (bs : List UInt8) (k acc n s : Nat), k ≤ 8 → acc < 128 ^ k → firstF bs k acc = (n, s, 0) → n < 128 ^ 9 ∧ s ≤ 9 ∧ 0 < s := by
  intro bs
  induction bs with
  | nil => intro k acc n s _ _ h; simp [firstF] at h
  | cons d r ih =>
    intro k acc n s hk ha h
    have e1 : acc + d.toNat % 128 * 128 ^ k < 128 ^ (k + 1) := by
      have h1 : d.toNat % 128 ≤ 127 := by omega
      have h2 : d.toNat % 128 * 128 ^ k ≤ 127 * 128 ^ k := Nat.mul_le_mul_right _ h1
      rw [Nat.pow_succ]
      omega
    unfold firstF at h
    split at h
    · split at h
      · simp at h
      · exact ih _ _ _ _ (by omega) e1 h
    · split at h
      · simp at h
      · injection h with h3 h4
        injection h4 with h4 _
        have e2 : 128 ^ (k + 1) ≤ 128 ^ 9 := Nat.pow_le_pow_right (by omega) (by omega)
        exact ⟨by omega, by omega, by omega⟩
theorem first_err : ∀ (bs : List UInt8) (k acc : Nat), (firstF bs k acc).2.2 ≠ 0 → (firstF bs k acc).1 = 0 ∧ (firstF bs k acc).2.1 = 0 := by
  intro bs
  induction bs with
  | nil => intro k acc _; simp [firstF]
  | cons d r ih =>
    intro k acc h
    unfold firstF at h ⊢
    split at h
    · rename_i h1
      rw [if_pos h1]
      split at h
      · rename_i h2; rw [if_pos h2]; simp
      · rename_i h2; rw [if_neg h2]; exact ih _ _ h
    · rename_i h1
      rw [if_neg h1]
      split at h
      · rename_i h2; rw [if_pos h2]; simp
      · simp at h

/-- A Reader: what isn't taken yet, what was wrong first. -/
abbrev Rd := List UInt8 × Nat
/-- The next number, and the Reader then. -/
def numF (st : Rd) (most : Int) : Int × Rd :=
  if st.2 ≠ 0 then (0, st) else
  if (firstF st.1 0 0).2.2 ≠ 0 then (0, (st.1, (firstF st.1 0 0).2.2)) else
  if most < ((firstF st.1 0 0).1 : Int) then (0, (st.1, 3)) else (((firstF st.1 0 0).1 : Int), (st.1.drop (firstF st.1 0 0).2.1, 0))
/-- The next text. -/
def textF (st : Rd) (most : Int) : List UInt8 × Rd :=
  if (numF st most).2.2 ≠ 0 then ([], (numF st most).2) else
  if ((numF st most).2.1.length : Int) < (numF st most).1 then ([], ((numF st most).2.1, 2)) else
  ((numF st most).2.1.take (numF st most).1.toNat, ((numF st most).2.1.drop (numF st most).1.toNat, 0))
def endF (st : Rd) : Nat := if st.2 ≠ 0 then st.2 else if st.1 = [] then 0 else 3

theorem pow_63 : (2 : Nat) ^ 63 = 128 ^ 9 := by decide
theorem num_digits {n : Nat} (h : n < 128 ^ 9) (rest : List UInt8) {most : Int} (hm : (n : Int) ≤ most) : numF (digitsF n ++ rest, 0) most = ((n : Int), (rest, 0)) := by
  have e := first_digits rest n 0 0 (by rw [Nat.pow_zero, Nat.mul_one]; exact h) (by omega) (by omega)
  simp only [Nat.pow_zero, Nat.mul_one, Nat.zero_add] at e
  unfold numF
  rw [e]
  simp [show ¬ most < (n : Int) by omega]
theorem num_above {n : Nat} (h : n < 128 ^ 9) (rest : List UInt8) {most : Int} (hm : most < (n : Int)) : numF (digitsF n ++ rest, 0) most = (0, (digitsF n ++ rest, 3)) := by
  have e := first_digits rest n 0 0 (by rw [Nat.pow_zero, Nat.mul_one]; exact h) (by omega) (by omega)
  simp only [Nat.pow_zero, Nat.mul_one, Nat.zero_add] at e
  unfold numF
  rw [e]
  simp [hm]
theorem text_digits {s : List UInt8} (h : s.length < 128 ^ 9) (rest : List UInt8) {most : Int} (hm : (s.length : Int) ≤ most) : textF (digitsF s.length ++ (s ++ rest), 0) most = (s, (rest, 0)) := by
  unfold textF
  rw [num_digits h _ hm]
  simp
  omega
end Go.Proofs.Ytophhjknbanafaa
