/- Words that stand for whole numbers: sums, differences, products, the other sign, order, cut: exact below 2^53. No program in it. -/
import Derived.Test.YtkklikkmpmlnbaaDoorFm
namespace Go.Proofs.YtkklikkmpmlnbaaDoor
open Ieee

/-- The word x stands for the whole number n. -/
def Num (x : Nat) (n : Int) : Prop := IsNum (double.read x) n

theorem num_fl (n : Int) (h : n.natAbs < 2 ^ 53) : Num (fl n) n := read_fl n h
theorem isnum_mk (s : Bool) (n : Int) (j : Nat) (h : n ≠ 0 → s = decide (n < 0)) : IsNum (.number s (n.natAbs * 2 ^ j) (-(j : Int))) n := ⟨s, j, rfl, h⟩

theorem isnum_sum {c d : Datum} {a b : Int} (hc : IsNum c a) (hd : IsNum d b) : ∃ e, c.sum d = some e ∧ IsNum e (a + b) := by
  obtain ⟨s, i, rfl, hs⟩ := hc
  obtain ⟨t, j, rfl, ht⟩ := hd
  unfold Datum.sum
  simp only
  refine ⟨_, rfl, ?_⟩
  rw [signed_num hs, signed_num ht]
  have e : i + (-(i : Int) - min (-(i : Int)) (-(j : Int))).toNat = max i j := by omega
  have e' : j + (-(j : Int) - min (-(i : Int)) (-(j : Int))).toNat = max i j := by omega
  rw [e, e', show min (-(i : Int)) (-(j : Int)) = -((max i j : Nat) : Int) by omega, ← Int.add_mul]
  generalize max i j = k
  generalize a + b = n
  have hp : (0 : Int) < ((2 ^ k : Nat) : Int) := by exact_mod_cast Nat.two_pow_pos k
  rw [Int.natAbs_mul, Int.natAbs_natCast]
  refine isnum_mk _ _ _ fun h0 => ?_
  have h1 : n * ((2 ^ k : Nat) : Int) ≠ 0 := Int.mul_ne_zero h0 (by omega)
  rw [if_neg h1]
  rcases Int.lt_trichotomy n 0 with h | h | h
  · rw [decide_eq_true h, decide_eq_true (Int.mul_neg_of_neg_of_pos h hp)]
  · exact absurd h h0
  · rw [decide_eq_false (show ¬ n < 0 by omega), decide_eq_false (Int.not_lt.mpr (Int.le_of_lt (Int.mul_pos h hp)))]
theorem isnum_opposite {d : Datum} {b : Int} (hd : IsNum d b) : IsNum d.opposite (-b) := by
  obtain ⟨t, j, rfl, ht⟩ := hd
  refine ⟨!t, j, by rw [Int.natAbs_neg]; rfl, fun h => ?_⟩
  have hb : b ≠ 0 := by omega
  rw [ht hb]
  by_cases h0 : b < 0
  · rw [decide_eq_true h0, decide_eq_false (by omega)]; rfl
  · rw [decide_eq_false h0, decide_eq_true (by omega)]; rfl
theorem isnum_product {c d : Datum} {a b : Int} (hc : IsNum c a) (hd : IsNum d b) : ∃ e, c.product d = some e ∧ IsNum e (a * b) := by
  obtain ⟨s, i, rfl, hs⟩ := hc
  obtain ⟨t, j, rfl, ht⟩ := hd
  refine ⟨_, rfl, s ^^ t, i + j, ?_, fun h => ?_⟩
  · rw [Int.natAbs_mul, Nat.pow_add]
    congr 1
    · rw [Nat.mul_mul_mul_comm]
    · omega
  · have ha : a ≠ 0 := fun e => h (by rw [e, Int.zero_mul])
    have hb : b ≠ 0 := fun e => h (by rw [e, Int.mul_zero])
    rw [hs ha, ht hb]
    by_cases h1 : a < 0 <;> by_cases h2 : b < 0
    · rw [decide_eq_true h1, decide_eq_true h2, decide_eq_false (by have := Int.mul_pos_of_neg_of_neg h1 h2; omega)]; rfl
    · rw [decide_eq_true h1, decide_eq_false h2, decide_eq_true (Int.mul_neg_of_neg_of_pos h1 (by omega))]; rfl
    · rw [decide_eq_false h1, decide_eq_true h2, decide_eq_true (Int.mul_neg_of_pos_of_neg (by omega) h2)]; rfl
    · rw [decide_eq_false h1, decide_eq_false h2, decide_eq_false (by have := Int.mul_pos (show 0 < a by omega) (show 0 < b by omega); omega)]; rfl
/-- What is written of a whole number below 2^53 stands for it. -/
theorem num_write {d : Datum} {n : Int} (h : IsNum d n) (hn : n.natAbs < 2 ^ 53) : Num (double.write d) n := by
  obtain ⟨s, j, rfl, hs⟩ := h
  by_cases h0 : n = 0
  · subst h0
    show IsNum (double.read (double.nearest s (Int.natAbs 0 * 2 ^ j) (-(j : Int)))) 0
    rw [Int.natAbs_zero, Nat.zero_mul]
    unfold Format.nearest
    rw [if_pos rfl]
    cases s
    · rw [show double.read (double.word false 0) = .number false 0 (-((1074 : Nat) : Int)) by decide]
      exact isnum_zero false 1074
    · rw [show double.read (double.word true 0) = .number true 0 (-((1074 : Nat) : Int)) by decide]
      exact isnum_zero true 1074
  · have := nearest_whole s n.natAbs j hn (by omega)
    rw [hs h0] at this ⊢
    rw [← fl_word n hn h0] at this
    show IsNum (double.read (double.nearest (decide (n < 0)) (n.natAbs * 2 ^ j) (-(j : Int)))) n
    rw [this]
    exact read_fl n hn

theorem num_add {x y : Nat} {a b : Int} (hx : Num x a) (hy : Num y b) (h : (a + b).natAbs < 2 ^ 53) : ∃ r, floatBits .add .f64 x y = some r ∧ Num r (a + b) := by
  obtain ⟨e, he, hn⟩ := isnum_sum hx hy
  refine ⟨double.write e, ?_, num_write hn h⟩
  show ((double.read x).sum (double.read y)).map double.write = _
  rw [he]; rfl
theorem num_sub {x y : Nat} {a b : Int} (hx : Num x a) (hy : Num y b) (h : (a - b).natAbs < 2 ^ 53) : ∃ r, floatBits .sub .f64 x y = some r ∧ Num r (a - b) := by
  obtain ⟨e, he, hn⟩ := isnum_sum hx (isnum_opposite hy)
  refine ⟨double.write e, ?_, num_write hn h⟩
  show ((double.read x).sum (double.read y).opposite).map double.write = _
  rw [he]; rfl
theorem num_mul {x y : Nat} {a b : Int} (hx : Num x a) (hy : Num y b) (h : (a * b).natAbs < 2 ^ 53) : ∃ r, floatBits .mul .f64 x y = some r ∧ Num r (a * b) := by
  obtain ⟨e, he, hn⟩ := isnum_product hx hy
  refine ⟨double.write e, ?_, num_write hn h⟩
  show ((double.read x).product (double.read y)).map double.write = _
  rw [he]; rfl
theorem read_neg (x : Nat) : double.read (x ^^^ 2 ^ 63) = (double.read x).opposite := by
  have h1 : (x ^^^ 2 ^ 63) % 2 ^ 63 = x % 2 ^ 63 := by rw [Nat.xor_mod_two_pow, Nat.mod_self, Nat.xor_zero]
  have h2 : ((x ^^^ 2 ^ 63) / 2 ^ 63 % 2 == 1) = !(x / 2 ^ 63 % 2 == 1) := by
    rw [Nat.xor_div_two_pow, show (2 : Nat) ^ 63 / 2 ^ 63 = 1 by decide]
    have : ((x / 2 ^ 63) ^^^ 1) % 2 = (x / 2 ^ 63 % 2) ^^^ 1 := by
      have := Nat.xor_mod_two_pow (a := x / 2 ^ 63) (b := 1) (n := 1)
      simpa using this
    rw [this]
    rcases Nat.mod_two_eq_zero_or_one (x / 2 ^ 63) with e | e <;> rw [e] <;> rfl
  have e4 : double.signWeight = 2 ^ 63 := rfl
  unfold Format.read
  simp only [e4]
  rw [h1, h2]
  split
  · rfl
  · split
    · rfl
    · split <;> rfl
theorem num_neg {x : Nat} {a : Int} (hx : Num x a) : Num (Op.negFloat .f64 x) (-a) := by
  show IsNum (double.read (x ^^^ 2 ^ 63)) (-a)
  rw [read_neg]
  exact isnum_opposite hx
theorem num_order {x y : Nat} {a b : Int} (hx : Num x a) (hy : Num y b) : FloatKind.f64.format.order x y = some (compare a b) := order_num hx hy
theorem num_leq {x y : Nat} {a b : Int} (hx : Num x a) (hy : Num y b) : (FloatKind.f64.format.order x y == some .lt || FloatKind.f64.format.order x y == some .eq) = decide (a ≤ b) := by
  rw [num_order hx hy]
  rcases Int.lt_trichotomy a b with h | h | h
  · rw [Int.compare_eq_lt.mpr h]; simp; omega
  · subst h; simp
  · rw [Int.compare_eq_gt.mpr h]; simp; omega
theorem num_geq {x y : Nat} {a b : Int} (hx : Num x a) (hy : Num y b) : (FloatKind.f64.format.order x y == some .gt || FloatKind.f64.format.order x y == some .eq) = decide (b ≤ a) := by
  rw [num_order hx hy]
  rcases Int.lt_trichotomy a b with h | h | h
  · rw [Int.compare_eq_lt.mpr h]; simp; omega
  · subst h; simp
  · rw [Int.compare_eq_gt.mpr h]; simp; omega
theorem num_eql {x y : Nat} {a b : Int} (hx : Num x a) (hy : Num y b) : (FloatKind.f64.format.order x y == some .eq) = decide (a = b) := by
  rw [num_order hx hy]
  rcases Int.lt_trichotomy a b with h | h | h
  · rw [Int.compare_eq_lt.mpr h]; simp; omega
  · subst h; simp
  · rw [Int.compare_eq_gt.mpr h]; simp; omega
theorem num_int {x : Nat} {a : Int} (hx : Num x a) (h : a.natAbs < 2 ^ 53) : floatToIntVal .f64 x .i64 = some a := by
  have : (FloatKind.f64.decode x).toInt .zero = some a := toInt_num hx
  unfold floatToIntVal
  rw [this]
  simp only
  rw [if_pos ⟨by rw [show IntKind.i64.min = -9223372036854775808 by decide]; omega, by rw [show IntKind.i64.max = 9223372036854775807 by decide]; omega⟩]
/-- What math.Trunc answers of a word that is no NaN. -/
def truncW (x : Nat) : Nat := double.write ((double.read x).integral .zero)
theorem num_trunc {x : Nat} {a : Int} (hx : Num x a) (h : a.natAbs < 2 ^ 53) : Num (truncW x) a := by
  obtain ⟨s, e, hs⟩ := integral_num hx
  unfold truncW
  rw [e]
  refine num_write ?_ h
  have := isnum_mk s a 0 hs
  simpa using this

/-- The words of the same whole number are equal for '=='. -/
theorem num_ne {x y : Nat} {a b : Int} (hx : Num x a) (hy : Num y b) : (FloatKind.f64.format.order x y != some .eq) = decide (a ≠ b) := by
  have := num_eql hx hy
  rw [bne, this]
  simp
end Go.Proofs.YtkklikkmpmlnbaaDoor
