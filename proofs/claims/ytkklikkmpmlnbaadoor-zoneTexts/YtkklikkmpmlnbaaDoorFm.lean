/- Whole numbers as floats: below 2^53 they are told exactly; their order, their parts, their sums. No program in it. -/
import Derived.Test.YtkklikkmpmlnbaaDoorRows
import Derived.Laws.FloatArith
import Derived.Laws.ComplexArith
namespace Go.Proofs.YtkklikkmpmlnbaaDoor
open Ieee

/-- The float of a whole number. -/
abbrev fl (n : Int) : Nat := floatOfInt .f64 n

/-- A datum whose value is the whole number n. -/
def IsNum (d : Datum) (n : Int) : Prop := ∃ (s : Bool) (j : Nat), d = .number s (n.natAbs * 2 ^ j) (-(j : Int)) ∧ (n ≠ 0 → s = decide (n < 0))

theorem shl_eq (m k : Nat) : m <<< k = m * 2 ^ k := Nat.shiftLeft_eq m k

theorem signed_num {n : Int} {s : Bool} {j up : Nat} (h : n ≠ 0 → s = decide (n < 0)) : signed s (n.natAbs * 2 ^ j) up = n * ((2 ^ (j + up) : Nat) : Int) := by
  unfold signed
  rw [shl_eq, Nat.mul_assoc, ← Nat.pow_add]
  by_cases hn : n = 0
  · subst hn; cases s <;> simp
  · rw [h hn]
    by_cases hneg : n < 0
    · rw [decide_eq_true hneg, if_pos rfl]
      push_cast
      rw [show ((n.natAbs : Int)) = -n by omega, Int.neg_mul, Int.neg_neg]
    · rw [decide_eq_false hneg, if_neg (by simp)]
      push_cast
      rw [show ((n.natAbs : Int)) = n by omega]

theorem cmp_mul (a b : Int) (k : Nat) : compare (a * ((2 ^ k : Nat) : Int)) (b * ((2 ^ k : Nat) : Int)) = compare a b := by
  have hp : (0 : Int) < ((2 ^ k : Nat) : Int) := by exact_mod_cast Nat.two_pow_pos k
  rcases Int.lt_trichotomy a b with h | h | h
  · rw [Int.compare_eq_lt.mpr h, Int.compare_eq_lt.mpr (Int.mul_lt_mul_of_pos_right h hp)]
  · subst h; simp
  · rw [Int.compare_eq_gt.mpr h, Int.compare_eq_gt.mpr (Int.mul_lt_mul_of_pos_right h hp)]

/-- Two such data stand as their numbers do. -/
theorem order_num {c d : Datum} {a b : Int} (hc : IsNum c a) (hd : IsNum d b) : c.order d = some (compare a b) := by
  obtain ⟨s, i, rfl, hs⟩ := hc
  obtain ⟨t, j, rfl, ht⟩ := hd
  unfold Datum.order
  simp only
  congr 1
  rw [signed_num hs, signed_num ht]
  have e : i + (-(i : Int) - min (-(i : Int)) (-(j : Int))).toNat = max i j := by omega
  have e' : j + (-(j : Int) - min (-(i : Int)) (-(j : Int))).toNat = max i j := by omega
  rw [e, e']
  exact cmp_mul a b _

theorem log2_mul (m j : Nat) (h : m ≠ 0) : (m * 2 ^ j).log2 = m.log2 + j := by
  rw [Nat.log2_eq_iff (Nat.mul_ne_zero h (Nat.ne_of_gt (Nat.two_pow_pos j)))]
  have h1 := Nat.log2_self_le h
  have h2 := Nat.lt_log2_self (n := m)
  constructor
  · rw [Nat.pow_add]; exact Nat.mul_le_mul_right _ h1
  · rw [show m.log2 + j + 1 = m.log2 + 1 + j by omega, Nat.pow_add]
    exact Nat.mul_lt_mul_of_pos_right h2 (Nat.two_pow_pos j)

/-- Cut towards zero. -/
theorem cut_zero (s : Bool) (m j : Nat) : Toward.zero.cut s (m * 2 ^ j) j = m := by
  unfold Toward.cut
  simp only [Bool.toNat_false, Nat.add_zero]
  rw [Nat.shiftLeft_eq, Nat.one_mul]
  by_cases h : m = 0
  · subst h; simp
  · rw [log2_mul m j h, Nat.min_eq_left (by omega)]
    exact Nat.mul_div_cancel m (Nat.two_pow_pos j)
theorem integral_num {d : Datum} {n : Int} (h : IsNum d n) : ∃ s, d.integral .zero = .number s n.natAbs 0 ∧ (n ≠ 0 → s = decide (n < 0)) := by
  obtain ⟨s, j, rfl, hs⟩ := h
  refine ⟨s, ?_, hs⟩
  unfold Datum.integral
  simp only
  rw [show (-(j : Int)).toNat = 0 by omega, show (-(-(j : Int))).toNat = j by omega, shl_eq, Nat.pow_zero, Nat.mul_one, cut_zero]
theorem toInt_num {d : Datum} {n : Int} (h : IsNum d n) : d.toInt .zero = some n := by
  obtain ⟨s, e, hs⟩ := integral_num h
  unfold Datum.toInt
  rw [e]
  simp only
  have := signed_num (n := n) (s := s) (j := 0) (up := 0) hs
  simpa using this

theorem format_double : FloatKind.f64.format = double := rfl
theorem cut_even_whole (s : Bool) (m k : Nat) : Toward.even.cut s (m * 2 ^ k) k = m := by
  unfold Toward.cut
  simp only
  rw [Nat.shiftLeft_eq, Nat.one_mul]
  by_cases h : m = 0
  · subst h; simp
  · rw [log2_mul m k h, Nat.min_eq_left (by omega), Nat.mul_div_cancel m (Nat.two_pow_pos k), Nat.mul_mod_left]
    simp

/-- The word nearest to a whole number, however it is told. -/
theorem nearest_whole (s : Bool) (m j : Nat) (h : m < 2 ^ 53) (h0 : m ≠ 0) : double.nearest s (m * 2 ^ j) (-(j : Int)) = double.word s ((m.log2 + 1022) * 2 ^ 52 + m * 2 ^ (52 - m.log2)) := by
  have hL : m.log2 < 53 := (Nat.log2_lt h0).mpr h
  unfold Format.nearest
  rw [if_neg (Nat.mul_ne_zero h0 (Nat.ne_of_gt (Nat.two_pow_pos j))), log2_mul m j h0]
  have e1 : double.leastPlace = -1074 := by decide
  have e2 : double.fractionBits = 52 := rfl
  have e3 : double.binade = 2 ^ 52 := rfl
  simp only [e1, e2, e3]
  have hl : max (-(j : Int) + ((m.log2 + j : Nat) : Int) - (52 : Nat)) (-1074) = (m.log2 : Int) - 52 := by omega
  rw [hl]
  have hk : Toward.even.cut s ((m * 2 ^ j) <<< (-(j : Int) - ((m.log2 : Int) - 52)).toNat) (((m.log2 : Int) - 52) - -(j : Int)).toNat = m * 2 ^ (52 - m.log2) := by
    by_cases hc : j ≤ 52 - m.log2
    · rw [show (-(j : Int) - ((m.log2 : Int) - 52)).toNat = 52 - m.log2 - j by omega, show (((m.log2 : Int) - 52) - -(j : Int)).toNat = 0 by omega, shl_eq, Nat.mul_assoc, ← Nat.pow_add, show j + (52 - m.log2 - j) = 52 - m.log2 by omega]
      have := cut_even_whole s (m * 2 ^ (52 - m.log2)) 0
      simpa using this
    · rw [show (-(j : Int) - ((m.log2 : Int) - 52)).toNat = 0 by omega, show (((m.log2 : Int) - 52) - -(j : Int)).toNat = j - (52 - m.log2) by omega, shl_eq, Nat.pow_zero, Nat.mul_one]
      have := cut_even_whole s (m * 2 ^ (52 - m.log2)) (j - (52 - m.log2))
      rw [Nat.mul_assoc, ← Nat.pow_add, show 52 - m.log2 + (j - (52 - m.log2)) = j by omega] at this
      exact this
  rw [hk, show ((m.log2 : Int) - 52 - -1074).toNat = m.log2 + 1022 by omega]
  congr 1
  apply Nat.min_eq_left
  have hub : m * 2 ^ (52 - m.log2) < 2 ^ 53 := by
    have h2 := Nat.lt_log2_self (n := m)
    calc m * 2 ^ (52 - m.log2) < 2 ^ (m.log2 + 1) * 2 ^ (52 - m.log2) := Nat.mul_lt_mul_of_pos_right h2 (Nat.two_pow_pos _)
      _ = 2 ^ 53 := by rw [← Nat.pow_add]; congr 1; omega
  have hi : double.infRung = 2047 * 2 ^ 52 := by decide
  rw [hi]
  omega

theorem fl_word (n : Int) (h : n.natAbs < 2 ^ 53) (h0 : n ≠ 0) : fl n = double.word (decide (n < 0)) ((n.natAbs.log2 + 1022) * 2 ^ 52 + n.natAbs * 2 ^ (52 - n.natAbs.log2)) := by
  have := nearest_whole (decide (n < 0)) n.natAbs 0 h (by omega)
  simpa [fl, floatOfInt, FloatKind.nearest, FloatKind.encode, format_double, Format.write] using this

theorem isnum_zero (s : Bool) (j : Nat) : IsNum (.number s 0 (-(j : Int))) 0 :=
  ⟨s, j, by rw [Int.natAbs_zero, Nat.zero_mul], fun h => absurd rfl h⟩

/-- The float of a whole number below 2^53 reads as that number. -/
theorem read_fl (n : Int) (h : n.natAbs < 2 ^ 53) : IsNum (double.read (fl n)) n := by
  by_cases h0 : n = 0
  · subst h0
    have e : double.read (fl 0) = .number false 0 (-((1074 : Nat) : Int)) := by decide
    rw [e]
    exact isnum_zero _ _
  · have hm : n.natAbs ≠ 0 := by omega
    have hL : n.natAbs.log2 < 53 := (Nat.log2_lt hm).mpr h
    rw [fl_word n h h0]
    generalize hs : decide (n < 0) = s
    generalize hmm : n.natAbs = m at *
    have hlb : 2 ^ 52 ≤ m * 2 ^ (52 - m.log2) := by
      have h1 := Nat.log2_self_le hm
      calc 2 ^ 52 = 2 ^ m.log2 * 2 ^ (52 - m.log2) := by rw [← Nat.pow_add]; congr 1; omega
        _ ≤ m * 2 ^ (52 - m.log2) := Nat.mul_le_mul_right _ h1
    have hub : m * 2 ^ (52 - m.log2) < 2 ^ 53 := by
      have h2 := Nat.lt_log2_self (n := m)
      calc m * 2 ^ (52 - m.log2) < 2 ^ (m.log2 + 1) * 2 ^ (52 - m.log2) := Nat.mul_lt_mul_of_pos_right h2 (Nat.two_pow_pos _)
        _ = 2 ^ 53 := by rw [← Nat.pow_add]; congr 1; omega
    refine ⟨s, 52 - m.log2, ?_, fun _ => hs.symm⟩
    rw [hmm]
    generalize m * 2 ^ (52 - m.log2) = K at *
    generalize hLL : m.log2 = L at *
    have e1 : double.leastPlace = -1074 := by decide
    have e3 : double.binade = 2 ^ 52 := rfl
    have e4 : double.signWeight = 2 ^ 63 := rfl
    have e5 : double.infRung = 2047 * 2 ^ 52 := by decide
    unfold Format.read
    simp only [e1, e3, e4, e5]
    have hr : (L + 1022) * 2 ^ 52 + K < 2 ^ 63 := by omega
    have hw : double.word s ((L + 1022) * 2 ^ 52 + K) % 2 ^ 63 = (L + 1022) * 2 ^ 52 + K := by
      unfold Format.word
      rw [e4]
      cases s <;> simp <;> omega
    have hn : (double.word s ((L + 1022) * 2 ^ 52 + K) / 2 ^ 63 % 2 == 1) = s := by
      unfold Format.word
      rw [e4]
      cases s
      · simp; omega
      · simp; omega
    rw [hw, hn, if_neg (by omega), if_pos (by omega)]
    have hd : ((L + 1022) * 2 ^ 52 + K) / 2 ^ 52 = L + 1023 := by omega
    have hmod : ((L + 1022) * 2 ^ 52 + K) % 2 ^ 52 = K - 2 ^ 52 := by omega
    rw [hd, hmod, show 2 ^ 52 + (K - 2 ^ 52) = K by omega, show (-1074 : Int) + ((L + 1023 - 1 : Nat) : Int) = -((52 - L : Nat) : Int) by omega]
end Go.Proofs.YtkklikkmpmlnbaaDoor
