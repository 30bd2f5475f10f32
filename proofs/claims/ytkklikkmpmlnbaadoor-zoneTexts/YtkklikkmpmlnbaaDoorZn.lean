/- The words of whole numbers that are great: they stand for great numbers. No program in it. -/
import Derived.Test.YtkklikkmpmlnbaaDoorZa
namespace Go.Proofs.YtkklikkmpmlnbaaDoor
open Ieee

theorem order_great {x y : Nat} {s : Bool} {m : Nat} {e : Int} {c : Int} (hr : double.read x = .number s m e) (hm : 2 ^ 52 ≤ m) (he : 0 ≤ e) (hy : Num y c) (hc : Small c) :
    FloatKind.f64.format.order x y = some (if s then .lt else .gt) ∧ FloatKind.f64.format.order y x = some (if s then .gt else .lt) := by
  obtain ⟨t, j, hy, ht⟩ := hy
  have e1 : FloatKind.f64.format.order x y = (double.read x).order (double.read y) := rfl
  have e2 : FloatKind.f64.format.order y x = (double.read y).order (double.read x) := rfl
  rw [e1, e2, hr, hy]
  unfold Datum.order
  simp only
  have b1 : min e (-(j : Int)) = -(j : Int) := by omega
  have b2 : min (-(j : Int)) e = -(j : Int) := by omega
  rw [b1, b2, signed_num ht, show (-(j : Int) - -(j : Int)).toNat = 0 by omega, Nat.add_zero]
  have hk : (e - -(j : Int)).toNat = e.toNat + j := by omega
  rw [hk]
  have hp : (0 : Int) < ((2 ^ j : Nat) : Int) := by exact_mod_cast Nat.two_pow_pos j
  have hbig : (2 ^ 52 : Int) * ((2 ^ j : Nat) : Int) ≤ ((m * 2 ^ (e.toNat + j) : Nat) : Int) := by
    have : 2 ^ 52 * 2 ^ j ≤ m * 2 ^ (e.toNat + j) := Nat.mul_le_mul hm (Nat.pow_le_pow_right (by decide) (by omega))
    exact_mod_cast this
  have hc1 : c * ((2 ^ j : Nat) : Int) < (2 ^ 52 : Int) * ((2 ^ j : Nat) : Int) := Int.mul_lt_mul_of_pos_right (by unfold Small at hc; omega) hp
  have hc2 : -((2 ^ 52 : Int) * ((2 ^ j : Nat) : Int)) < c * ((2 ^ j : Nat) : Int) := by
    rw [← Int.neg_mul]
    exact Int.mul_lt_mul_of_pos_right (by unfold Small at hc; omega) hp
  unfold signed
  rw [shl_eq]
  generalize c * ((2 ^ j : Nat) : Int) = C at *
  generalize (2 ^ 52 : Int) * ((2 ^ j : Nat) : Int) = D at *
  generalize m * 2 ^ (e.toNat + j) = M at *
  cases s
  · simp only [Bool.false_eq_true, if_false]
    exact ⟨by rw [Int.compare_eq_gt.mpr (by omega)], by rw [Int.compare_eq_lt.mpr (by omega)]⟩
  · simp only [if_true]
    exact ⟨by rw [Int.compare_eq_lt.mpr (by omega)], by rw [Int.compare_eq_gt.mpr (by omega)]⟩
theorem big_of {x : Nat} {s : Bool} {m : Nat} {e : Int} (hr : double.read x = .number s m e) (hm : 2 ^ 52 ≤ m) (he : 0 ≤ e) : Big x := by
  refine ⟨fun lo hi a b hl hh ha hb => ?_, ?_⟩
  · have h1 := (order_great hr hm he hl ha).2
    have h2 := (order_great hr hm he hh hb).1
    unfold wwB leqB
    rw [h1, h2]
    cases s <;> rfl
  · have h1 := (order_great hr hm he num_zero small_zero).1
    unfold eqlB
    rw [h1]
    cases s <;> rfl
theorem cut_even_in (s : Bool) (m d : Nat) (hd : d ≤ m.log2 + 2) : ∃ r, r ≤ 1 ∧ Toward.even.cut s m d = m / 2 ^ d + r := by
  unfold Toward.cut
  simp only
  rw [Nat.min_eq_left hd, Nat.shiftLeft_eq, Nat.one_mul]
  exact ⟨_, Bool.toNat_le _, rfl⟩
theorem read_great (n : Int) (h1 : 2 ^ 53 ≤ n.natAbs) (h2 : n.natAbs < 2 ^ 64) : ∃ s m e, double.read (fl n) = .number s m e ∧ 2 ^ 52 ≤ m ∧ 0 ≤ e := by
  have h0 : n.natAbs ≠ 0 := by omega
  have hL1 : 53 ≤ n.natAbs.log2 := (Nat.le_log2 h0).mpr h1
  have hL2 : n.natAbs.log2 < 64 := (Nat.log2_lt h0).mpr h2
  have hlo := Nat.log2_self_le h0
  have hhi := Nat.lt_log2_self (n := n.natAbs)
  have e1 : double.leastPlace = -1074 := by decide
  have e2 : double.fractionBits = 52 := rfl
  have e3 : double.binade = 2 ^ 52 := rfl
  have e4 : double.signWeight = 2 ^ 63 := rfl
  have e5 : double.infRung = 2047 * 2 ^ 52 := by decide
  obtain ⟨r, hr, hcut⟩ := cut_even_in (decide (n < 0)) n.natAbs (n.natAbs.log2 - 52) (by omega)
  have hw : fl n = double.word (decide (n < 0)) ((n.natAbs.log2 + 1022) * 2 ^ 52 + (n.natAbs / 2 ^ (n.natAbs.log2 - 52) + r)) := by
    show double.nearest (decide (n < 0)) n.natAbs 0 = _
    unfold Format.nearest
    rw [if_neg h0]
    simp only [e1, e2, e3, e5]
    rw [show max ((0 : Int) + (n.natAbs.log2 : Int) - ((52 : Nat) : Int)) (-1074) = (n.natAbs.log2 : Int) - 52 by omega,
      show ((0 : Int) - ((n.natAbs.log2 : Int) - 52)).toNat = 0 by omega, show ((n.natAbs.log2 : Int) - 52 - 0).toNat = n.natAbs.log2 - 52 by omega, shl_eq, Nat.pow_zero, Nat.mul_one, hcut,
      show ((n.natAbs.log2 : Int) - 52 - -1074).toNat = n.natAbs.log2 + 1022 by omega]
    congr 1
    apply Nat.min_eq_left
    have : n.natAbs / 2 ^ (n.natAbs.log2 - 52) < 2 ^ 53 := by
      rw [Nat.div_lt_iff_lt_mul (Nat.two_pow_pos _), ← Nat.pow_add, show 53 + (n.natAbs.log2 - 52) = n.natAbs.log2 + 1 by omega]
      exact hhi
    omega
  have hK1 : 2 ^ 52 ≤ n.natAbs / 2 ^ (n.natAbs.log2 - 52) := by
    rw [Nat.le_div_iff_mul_le (Nat.two_pow_pos _), ← Nat.pow_add, show 52 + (n.natAbs.log2 - 52) = n.natAbs.log2 by omega]
    exact hlo
  have hK2 : n.natAbs / 2 ^ (n.natAbs.log2 - 52) < 2 ^ 53 := by
    rw [Nat.div_lt_iff_lt_mul (Nat.two_pow_pos _), ← Nat.pow_add, show 53 + (n.natAbs.log2 - 52) = n.natAbs.log2 + 1 by omega]
    exact hhi
  rw [hw]
  generalize decide (n < 0) = s
  generalize n.natAbs / 2 ^ (n.natAbs.log2 - 52) = K at *
  generalize n.natAbs.log2 = L at *
  clear hw hcut hlo hhi h0 h1 h2
  have hrng : (L + 1022) * 2 ^ 52 + (K + r) < 2 ^ 63 := by omega
  have hmod : double.word s ((L + 1022) * 2 ^ 52 + (K + r)) % 2 ^ 63 = (L + 1022) * 2 ^ 52 + (K + r) := by
    unfold Format.word
    rw [e4]
    cases s <;> simp <;> omega
  unfold Format.read
  simp only [e1, e3, e4, e5]
  rw [hmod, if_neg (by omega), if_pos (by omega)]
  exact ⟨_, _, _, rfl, by omega, by omega⟩
/-- A whole number's word stands for it, or both are great. -/
theorem numB_fl (n : Int) (h : n.natAbs < 2 ^ 64) : NumB (fl n) n := by
  by_cases hs : Small n
  · exact .inl ⟨hs, num_fl n hs.lt⟩
  refine .inr ⟨hs, ?_⟩
  by_cases h53 : n.natAbs < 2 ^ 53
  · have hn := num_fl n h53
    refine ⟨fun lo hi a b hl hh ha hb => ?_, ?_⟩
    · rw [ww_num hn h53 hl hh]
      unfold withinF Small at *
      rw [Bool.and_eq_false_iff, decide_eq_false_iff_not, decide_eq_false_iff_not]
      omega
    · have := num_eql hn num_zero
      unfold eqlB
      rw [this, decide_eq_false_iff_not]
      rintro rfl
      exact hs small_zero
  · obtain ⟨s, m, e, hr, hm, he⟩ := read_great n (by omega) h
    exact big_of hr hm he
end Go.Proofs.YtkklikkmpmlnbaaDoor
