/- Texts Fm Im Ia Lf In Ix Lj Ln Lg Rt Iy, one behind the other. -/
import Derived.Test.YtpaiigminmakgaaRows
import Derived.Laws.FloatArith
import Derived.Laws.ComplexArith
import Derived.Lib.Bytealg
import Derived.Lib.Strings
import Derived.WalkKit
import Derived.WalkSpells
import Derived.WalkLawsBesides
import Derived.BigQuiet
import Derived.Deep.QuietTactic
import Derived.Lib.Hide
import Derived.Deep.RegionHeld3
import Derived.Lib.SliceRun
import Derived.Deep.RegionLaw
import Derived.Maps.AppendAt
import Derived.Deep.MidRow
import Derived.Deep.CutBlock
import Derived.Deep.DeepCutAuto
import Derived.StillTail
import Derived.Deep.RegionHeld
/- Whole numbers as floats: below 2^53 they are told exactly; their order, their parts, their sums. No program in it. -/
namespace Go.Proofs.Ytpaiigminmakgaa
open Ieee

/-- The float of a whole number. -/
abbrev fl (n : Int) : Nat := floatOfInt .f64 n

/-- A datum whose value is the whole number n. -/
def IsNum (d : Datum) (n : Int) : Prop := ∃ (s : Bool) (j : Nat), d = .number s (n.natAbs * 2 ^ j) (-(j : Int)) ∧ (n ≠ 0 → s = decide (n < 0))

theorem shl_eq (m k : Nat) : m <<< k = m * 2 ^ k := Nat.shiftLeft_eq m k

theorem signed_num {n : Int} {s : Bool} {j up : Nat} (h : n ≠ 0 → s = decide (n < 0)) : signed s (n.natAbs * 2 ^ j) up = n * ((2 ^ (j + up) : Nat) : Int) := by
  unfold signed
  rw [shl_eq, Nat.mul_assoc, ← Nat.pow_add]
  by_cases hn : n = 0
  · subst hn; cases s <;> simp
  · rw [h hn]
    by_cases hneg : n < 0
    · rw [decide_eq_true hneg, if_pos rfl]
      push_cast
      rw [show ((n.natAbs : Int)) = -n by omega, Int.neg_mul, Int.neg_neg]
    · rw [decide_eq_false hneg, if_neg (by simp)]
      push_cast
      rw [show ((n.natAbs : Int)) = n by omega]

theorem cmp_mul (a b : Int) (k : Nat) : compare (a * ((2 ^ k : Nat) : Int)) (b * ((2 ^ k : Nat) : Int)) = compare a b := by
  have hp : (0 : Int) < ((2 ^ k : Nat) : Int) := by exact_mod_cast Nat.two_pow_pos k
  rcases Int.lt_trichotomy a b with h | h | h
  · rw [Int.compare_eq_lt.mpr h, Int.compare_eq_lt.mpr (Int.mul_lt_mul_of_pos_right h hp)]
  · subst h; simp
  · rw [Int.compare_eq_gt.mpr h, Int.compare_eq_gt.mpr (Int.mul_lt_mul_of_pos_right h hp)]

/-- Two such data stand as their numbers do. -/
theorem order_num {c d : Datum} {a b : Int} (hc : IsNum c a) (hd : IsNum d b) : c.order d = some (compare a b) := by
  obtain ⟨s, i, rfl, hs⟩ := hc
  obtain ⟨t, j, rfl, ht⟩ := hd
  unfold Datum.order
  simp only
  congr 1
  rw [signed_num hs, signed_num ht]
  have e : i + (-(i : Int) - min (-(i : Int)) (-(j : Int))).toNat = max i j := by omega
  have e' : j + (-(j : Int) - min (-(i : Int)) (-(j : Int))).toNat = max i j := by omega
  rw [e, e']
  exact cmp_mul a b _

theorem log2_mul (m j : Nat) (h : m ≠ 0) : (m * 2 ^ j).log2 = m.log2 + j := by
  rw [Nat.log2_eq_iff (Nat.mul_ne_zero h (Nat.ne_of_gt (Nat.two_pow_pos j)))]
  have h1 := Nat.log2_self_le h
  have h2 := Nat.lt_log2_self (n := m)
  constructor
  · rw [Nat.pow_add]; exact Nat.mul_le_mul_right _ h1
  · rw [show m.log2 + j + 1 = m.log2 + 1 + j by omega, Nat.pow_add]
    exact Nat.mul_lt_mul_of_pos_right h2 (Nat.two_pow_pos j)

/-- Cut towards zero. -/
theorem cut_zero (s : Bool) (m j : Nat) : Toward.zero.cut s (m * 2 ^ j) j = m := by
  unfold Toward.cut
  simp only [Bool.toNat_false, Nat.add_zero]
  rw [Nat.shiftLeft_eq, Nat.one_mul]
  by_cases h : m = 0
  · subst h; simp
  · rw [log2_mul m j h, Nat.min_eq_left (by omega)]
    exact Nat.mul_div_cancel m (Nat.two_pow_pos j)
theorem integral_num {d : Datum} {n : Int} (h : IsNum d n) : ∃ s, d.integral .zero = .number s n.natAbs 0 ∧ (n ≠ 0 → s = decide (n < 0)) := by
  obtain ⟨s, j, rfl, hs⟩ := h
  refine ⟨s, ?_, hs⟩
  unfold Datum.integral
  simp only
  rw [show (-(j : Int)).toNat = 0 by omega, show (-(-(j : Int))).toNat = j by omega, shl_eq, Nat.pow_zero, Nat.mul_one, cut_zero]
theorem toInt_num {d : Datum} {n : Int} (h : IsNum d n) : d.toInt .zero = some n := by
  obtain ⟨s, e, hs⟩ := integral_num h
  unfold Datum.toInt
  rw [e]
  simp only
  have := signed_num (n := n) (s := s) (j := 0) (up := 0) hs
  simpa using this

theorem format_double : FloatKind.f64.format = double := rfl
theorem cut_even_whole (s : Bool) (m k : Nat) : Toward.even.cut s (m * 2 ^ k) k = m := by
  unfold Toward.cut
  simp only
  rw [Nat.shiftLeft_eq, Nat.one_mul]
  by_cases h : m = 0
  · subst h; simp
  · rw [log2_mul m k h, Nat.min_eq_left (by omega), Nat.mul_div_cancel m (Nat.two_pow_pos k), Nat.mul_mod_left]
    simp

/-- The word nearest to a whole number, however it is told. -/
theorem nearest_whole (s : Bool) (m j : Nat) (h : m < 2 ^ 53) (h0 : m ≠ 0) : double.nearest s (m * 2 ^ j) (-(j : Int)) = double.word s ((m.log2 + 1022) * 2 ^ 52 + m * 2 ^ (52 - m.log2)) := by
  have hL : m.log2 < 53 := (Nat.log2_lt h0).mpr h
  unfold Format.nearest
  rw [if_neg (Nat.mul_ne_zero h0 (Nat.ne_of_gt (Nat.two_pow_pos j))), log2_mul m j h0]
  have e1 : double.leastPlace = -1074 := by decide
  have e2 : double.fractionBits = 52 := rfl
  have e3 : double.binade = 2 ^ 52 := rfl
  simp only [e1, e2, e3]
  have hl : max (-(j : Int) + ((m.log2 + j : Nat) : Int) - (52 : Nat)) (-1074) = (m.log2 : Int) - 52 := by omega
  rw [hl]
  have hk : Toward.even.cut s ((m * 2 ^ j) <<< (-(j : Int) - ((m.log2 : Int) - 52)).toNat) (((m.log2 : Int) - 52) - -(j : Int)).toNat = m * 2 ^ (52 - m.log2) := by
    by_cases hc : j ≤ 52 - m.log2
    · rw [show (-(j : Int) - ((m.log2 : Int) - 52)).toNat = 52 - m.log2 - j by omega, show (((m.log2 : Int) - 52) - -(j : Int)).toNat = 0 by omega, shl_eq, Nat.mul_assoc, ← Nat.pow_add, show j + (52 - m.log2 - j) = 52 - m.log2 by omega]
      have := cut_even_whole s (m * 2 ^ (52 - m.log2)) 0
      simpa using this
    · rw [show (-(j : Int) - ((m.log2 : Int) - 52)).toNat = 0 by omega, show (((m.log2 : Int) - 52) - -(j : Int)).toNat = j - (52 - m.log2) by omega, shl_eq, Nat.pow_zero, Nat.mul_one]
      have := cut_even_whole s (m * 2 ^ (52 - m.log2)) (j - (52 - m.log2))
      rw [Nat.mul_assoc, ← Nat.pow_add, show 52 - m.log2 + (j - (52 - m.log2)) = j by omega] at this
      exact this
  rw [hk, show ((m.log2 : Int) - 52 - -1074).toNat = m.log2 + 1022 by omega]
  congr 1
  apply Nat.min_eq_left
  have hub : m * 2 ^ (52 - m.log2) < 2 ^ 53 := by
    have h2 := Nat.lt_log2_self (n := m)
    calc m * 2 ^ (52 - m.log2) < 2 ^ (m.log2 + 1) * 2 ^ (52 - m.log2) := Nat.mul_lt_mul_of_pos_right h2 (Nat.two_pow_pos _)
      _ = 2 ^ 53 := by rw [← Nat.pow_add]; congr 1; omega
  have hi : double.infRung = 2047 * 2 ^ 52 := by decide
  rw [hi]
  omega

theorem fl_word (n : Int) (h : n.natAbs < 2 ^ 53) (h0 : n ≠ 0) : fl n = double.word (decide (n < 0)) ((n.natAbs.log2 + 1022) * 2 ^ 52 + n.natAbs * 2 ^ (52 - n.natAbs.log2)) := by
  have := nearest_whole (decide (n < 0)) n.natAbs 0 h (by omega)
  simpa [fl, floatOfInt, FloatKind.nearest, FloatKind.encode, format_double, Format.write] using this

theorem isnum_zero (s : Bool) (j : Nat) : IsNum (.number s 0 (-(j : Int))) 0 :=
  ⟨s, j, by rw [Int.natAbs_zero, Nat.zero_mul], fun h => absurd rfl h⟩

/-- The float of a whole number below 2^53 reads as that number. -/
theorem read_fl (n : Int) (h : n.natAbs < 2 ^ 53) : IsNum (double.read (fl n)) n := by
  by_cases h0 : n = 0
  · subst h0
    have e : double.read (fl 0) = .number false 0 (-((1074 : Nat) : Int)) := by decide
    rw [e]
    exact isnum_zero _ _
  · have hm : n.natAbs ≠ 0 := by omega
    have hL : n.natAbs.log2 < 53 := (Nat.log2_lt hm).mpr h
    rw [fl_word n h h0]
    generalize hs : decide (n < 0) = s
    generalize hmm : n.natAbs = m at *
    have hlb : 2 ^ 52 ≤ m * 2 ^ (52 - m.log2) := by
      have h1 := Nat.log2_self_le hm
      calc 2 ^ 52 = 2 ^ m.log2 * 2 ^ (52 - m.log2) := by rw [← Nat.pow_add]; congr 1; omega
        _ ≤ m * 2 ^ (52 - m.log2) := Nat.mul_le_mul_right _ h1
    have hub : m * 2 ^ (52 - m.log2) < 2 ^ 53 := by
      have h2 := Nat.lt_log2_self (n := m)
      calc m * 2 ^ (52 - m.log2) < 2 ^ (m.log2 + 1) * 2 ^ (52 - m.log2) := Nat.mul_lt_mul_of_pos_right h2 (Nat.two_pow_pos _)
        _ = 2 ^ 53 := by rw [← Nat.pow_add]; congr 1; omega
    refine ⟨s, 52 - m.log2, ?_, fun _ => hs.symm⟩
    rw [hmm]
    generalize m * 2 ^ (52 - m.log2) = K at *
    generalize hLL : m.log2 = L at *
    have e1 : double.leastPlace = -1074 := by decide
    have e3 : double.binade = 2 ^ 52 := rfl
    have e4 : double.signWeight = 2 ^ 63 := rfl
    have e5 : double.infRung = 2047 * 2 ^ 52 := by decide
    unfold Format.read
    simp only [e1, e3, e4, e5]
    have hr : (L + 1022) * 2 ^ 52 + K < 2 ^ 63 := by omega
    have hw : double.word s ((L + 1022) * 2 ^ 52 + K) % 2 ^ 63 = (L + 1022) * 2 ^ 52 + K := by
      unfold Format.word
      rw [e4]
      cases s <;> simp <;> omega
    have hn : (double.word s ((L + 1022) * 2 ^ 52 + K) / 2 ^ 63 % 2 == 1) = s := by
      unfold Format.word
      rw [e4]
      cases s
      · simp; omega
      · simp; omega
    rw [hw, hn, if_neg (by omega), if_pos (by omega)]
    have hd : ((L + 1022) * 2 ^ 52 + K) / 2 ^ 52 = L + 1023 := by omega
    have hmod : ((L + 1022) * 2 ^ 52 + K) % 2 ^ 52 = K - 2 ^ 52 := by omega
    rw [hd, hmod, show 2 ^ 52 + (K - 2 ^ 52) = K by omega, show (-1074 : Int) + ((L + 1023 - 1 : Nat) : Int) = -((52 - L : Nat) : Int) by omega]
end Go.Proofs.Ytpaiigminmakgaa

/- The names of layer 1 as lists of bytes: which may be (rightL), and what the order says of them. Plain mathematics. -/
namespace Go.Proofs.Ytpaiigminmakgaa

/-- The byte at a place, 0 beyond the end. -/
def at8 (l : List UInt8) (j : Nat) : Nat := (l.getD j 0).toNat
/-- May the text be a name? -/
def rightL (l : List UInt8) : Bool := decide (1 ≤ l.length ∧ l.length ≤ 6 ∧ at8 l 0 = 48) && (List.range l.length).all (fun j => j == 0 || (decide (49 ≤ at8 l j) && decide (at8 l j ≤ 57)))

theorem rightL_iff (l : List UInt8) : rightL l = true ↔ (1 ≤ l.length ∧ l.length ≤ 6 ∧ at8 l 0 = 48) ∧ ∀ j, 1 ≤ j → j < l.length → 49 ≤ at8 l j ∧ at8 l j ≤ 57 := by
  unfold rightL
  rw [Bool.and_eq_true, decide_eq_true_iff, List.all_eq_true]
  refine and_congr Iff.rfl ⟨fun h j h1 h2 => ?_, fun h j hj => ?_⟩
  · have := h j (List.mem_range.mpr h2)
    simp at this
    omega
  · have hj' := List.mem_range.mp hj
    by_cases h0 : j = 0
    · simp [h0]
    · have := h j (by omega) hj'
      simp [this]

theorem right_true {l : List UInt8} (h1 : 1 ≤ l.length) (h2 : l.length ≤ 6) (h3 : at8 l 0 = 48) (h4 : ∀ j, 1 ≤ j → j < l.length → 49 ≤ at8 l j ∧ at8 l j ≤ 57) : rightL l = true := (rightL_iff l).mpr ⟨⟨h1, h2, h3⟩, h4⟩
theorem right_long {l : List UInt8} (h : 6 < l.length) : rightL l = false := by
  rw [Bool.eq_false_iff]; intro e; have := (rightL_iff l).mp e; omega
theorem right_nil {l : List UInt8} (h : l.length < 1) : rightL l = false := by
  rw [Bool.eq_false_iff]; intro e; have := (rightL_iff l).mp e; omega
theorem right_head {l : List UInt8} (h : at8 l 0 ≠ 48) : rightL l = false := by
  rw [Bool.eq_false_iff]; intro e; have := (rightL_iff l).mp e; omega
theorem right_low {l : List UInt8} (j : Nat) (h1 : 1 ≤ j) (h2 : j < l.length) (h : at8 l j < 49) : rightL l = false := by
  rw [Bool.eq_false_iff]; intro e; have := ((rightL_iff l).mp e).2 j h1 h2; omega
theorem right_high {l : List UInt8} (j : Nat) (h1 : 1 ≤ j) (h2 : j < l.length) (h : 57 < at8 l j) : rightL l = false := by
  rw [Bool.eq_false_iff]; intro e; have := ((rightL_iff l).mp e).2 j h1 h2; omega

theorem at8_lt (s : ByteArray) (k : Nat) (h : k < s.size) : at8 s.data.toList k = s[k].toNat := by
  unfold at8
  have hl : k < s.data.toList.length := by simpa using h
  rw [List.getD_eq_getElem?_getD, List.getElem?_eq_getElem hl]
  rfl

/-- Is the text's first byte 0? -/
theorem hasPrefix_zero (l : List UInt8) : Lib.hasPrefix l [48] = (decide (1 ≤ l.length) && decide (at8 l 0 = 48)) := by
  cases l with
  | nil => simp [Lib.hasPrefix]
  | cons c r =>
    simp only [Lib.hasPrefix, List.isPrefixOf, Bool.and_true]
    have : at8 (c :: r) 0 = c.toNat := rfl
    rw [this, Bool.eq_iff_iff]
    simp
    constructor
    · intro e; rw [← e]; rfl
    · intro e; exact (UInt8.toNat_inj.mp (by simpa using e)).symm
end Go.Proofs.Ytpaiigminmakgaa

/- The names of layer 1: what id.Right and the document's Right answer: rightL of the text's bytes. -/
namespace Go.Proofs.Ytpaiigminmakgaa
open Go.RowKit

theorem ret_int {k : IntKind} {a b : Int} (h : a = b) : Ending.returned (.int k a) = .returned (.int k b) := by rw [h]
theorem ret_bool {a b : Bool} (h : a = b) : Ending.returned (.bool a) = .returned (.bool b) := by rw [h]

set_option maxRecDepth 100000 in
set_option maxHeartbeats 400000 in
theorem hasPrefix_in (s p : ByteArray) (w : World) :
    Calls Try.prog 91 #[.string s, .string p] w fun e w' => e = .returned (.bool (Lib.hasPrefix s.data.toList p.data.toList)) ∧ w = w' := by
  by_cases h : p.size ≤ s.size
  · go_enter Try.func91, Try.ntmps91
    go_wp2
    go_ret
    exact ⟨ret_bool (by rw [← Lib.hasPrefix_raw]; simp [h]), rfl⟩
  · go_enter Try.func91, Try.ntmps91
    go_wp2
    go_ret
    exact ⟨ret_bool (by rw [← Lib.hasPrefix_raw]; simp [h]), rfl⟩

set_option maxRecDepth 100000 in
set_option maxHeartbeats 400000 in
theorem hasPrefix_any (s p : ByteArray) (w : World) :
    Calls Try.prog 84 #[.string s, .string p] w fun e w' => e = .returned (.bool (Lib.hasPrefix s.data.toList p.data.toList)) ∧ w = w' := by
  go_enter Try.func84, Try.ntmps84
  go_wp2_with (go_at_call 91; refine (hasPrefix_in _ _ _).mono ?_; rintro e w' ⟨rfl, rfl⟩)
  go_ret
  exact ⟨rfl, rfl⟩
theorem hasPrefix_is (s p : ByteArray) (b : Bool) (h : Hid (Lib.hasPrefix s.data.toList p.data.toList = b)) (w : World) :
    Calls Try.prog 84 #[.string s, .string p] w fun e w' => e = .returned (.bool b) ∧ w = w' := by
  rw [← h.out]; exact hasPrefix_any s p w

set_option maxRecDepth 100000 in
set_option maxHeartbeats 1000000 in
theorem right_any (s : ByteArray) (w : World) :
    Calls Try.prog 73 #[.string s] w fun e w' => e = .returned (.bool (rightL s.data.toList)) ∧ w = w' := by
  have hsz : s.data.toList.length = s.size := by simp
  by_cases h6 : 6 < s.size
  · have HR : Hid (rightL s.data.toList = false) := right_long (by omega)
    clear hsz
    go_enter Try.func73, Try.ntmps73
    go_wp2
    go_ret
    exact ⟨ret_bool HR.out.symm, rfl⟩
  · by_cases h0 : 1 ≤ s.size ∧ at8 s.data.toList 0 = 48
    · have HP : Hid (Lib.hasPrefix s.data.toList (ByteArray.mk #[48]).data.toList = true) := by
        show Lib.hasPrefix s.data.toList [48] = true
        rw [hasPrefix_zero]; simp [h0]
      obtain ⟨h1, hz⟩ := h0
      have HZ := Lib.hid hz
      have HL := Lib.hid hsz
      clear hz hsz
      go_enter Try.func73, Try.ntmps73
      go_wp2_with (go_at_call 84; refine (hasPrefix_is _ _ true HP _).mono ?_; rintro e w' ⟨rfl, rfl⟩)
      go_loop [3] (fun i => ∃ k : Nat, 1 ≤ k ∧ k ≤ s.size ∧ i = .int .i64 k ∧ Hid (∀ j, 1 ≤ j → j < k → 49 ≤ at8 s.data.toList j ∧ at8 s.data.toList j ≤ 57)) (fun i => s.size - (intOf i).toNat)
      case atStart => exact ⟨1, by omega, h1, rfl, fun j a b => absurd b (by omega)⟩
      case round =>
        obtain ⟨k, hk1, hk, rfl, HA⟩ := hrel
        by_cases hlt : k < s.size
        · have hb := at8_lt s k hlt
          have HB := Lib.hid hb
          clear hb
          by_cases c1 : (s[k].toNat : Int) < 49
          · go_wp2
            go_ret
            exact ⟨ret_bool (right_low k hk1 (by have := HL.out; omega) (by have := HB.out; omega)).symm, rfl⟩
          · by_cases c2 : 57 < (s[k].toNat : Int)
            · go_wp2
              go_ret
              exact ⟨ret_bool (right_high k hk1 (by have := HL.out; omega) (by have := HB.out; omega)).symm, rfl⟩
            · go_wp2
              go_round
              case rel =>
                refine ⟨k + 1, by omega, by omega, by go_num, fun j a b => ?_⟩
                by_cases e : j = k
                · subst e; have := HB.out; omega
                · exact HA.out j a (by omega)
              case measure => simp [intOf]; omega
        · go_wp2
          go_ret
          exact ⟨ret_bool (right_true (by have := HL.out; omega) (by have := HL.out; omega) HZ.out (fun j a b => HA.out j a (by have := HL.out; omega))).symm, rfl⟩
    · have HP : Hid (Lib.hasPrefix s.data.toList (ByteArray.mk #[48]).data.toList = false) := by
        show Lib.hasPrefix s.data.toList [48] = false
        rw [hasPrefix_zero]; simp; omega
      have HR : Hid (rightL s.data.toList = false) := by
        by_cases h1 : 1 ≤ s.size
        · exact right_head (by omega)
        · exact right_nil (by omega)
      clear hsz h0
      go_enter Try.func73, Try.ntmps73
      go_wp2_with (go_at_call 84; refine (hasPrefix_is _ _ false HP _).mono ?_; rintro e w' ⟨rfl, rfl⟩)
      go_ret
      exact ⟨ret_bool HR.out.symm, rfl⟩
theorem right_is (s : ByteArray) (b : Bool) (h : Hid (rightL s.data.toList = b)) (w : World) :
    Calls Try.prog 73 #[.string s] w fun e w' => e = .returned (.bool b) ∧ w = w' := by
  rw [← h.out]; exact right_any s w

set_option maxRecDepth 100000 in
set_option maxHeartbeats 1000000 in
theorem rright_any (s : ByteArray) (w : World) :
    Calls Try.prog 58 #[.string s] w fun e w' => e = .returned (.bool (rightL s.data.toList)) ∧ w = w' := by
  have hsz : s.data.toList.length = s.size := by simp
  by_cases h1 : s.size < 1
  · have HR : Hid (rightL s.data.toList = false) := right_nil (by omega)
    clear hsz
    go_enter Try.func58, Try.ntmps58
    go_wp2
    go_ret
    exact ⟨ret_bool HR.out.symm, rfl⟩
  by_cases h6 : 6 < s.size
  · have HR : Hid (rightL s.data.toList = false) := right_long (by omega)
    clear hsz
    go_enter Try.func58, Try.ntmps58
    go_wp2
    go_ret
    exact ⟨ret_bool HR.out.symm, rfl⟩
  have h0 : 0 < s.size := by omega
  have hb := at8_lt s 0 h0
  by_cases hz : ((s[0].toNat : Int) != 48) = true
  · have HR : Hid (rightL s.data.toList = false) := right_head (by simp at hz; omega)
    clear hsz hb
    go_enter Try.func58, Try.ntmps58
    go_wp2
    go_ret
    exact ⟨ret_bool HR.out.symm, rfl⟩
  · have hz' : ((s[0].toNat : Int) != 48) = false := by simpa using hz
    have HZ : Hid (at8 s.data.toList 0 = 48) := by simp at hz; show _ = _; omega
    have HL := Lib.hid hsz
    clear hz hsz hb
    go_enter Try.func58, Try.ntmps58
    go_wp2
    go_loop [3] (fun i => ∃ k : Nat, 1 ≤ k ∧ k ≤ s.size ∧ i = .int .i64 k ∧ Hid (∀ j, 1 ≤ j → j < k → 49 ≤ at8 s.data.toList j ∧ at8 s.data.toList j ≤ 57)) (fun i => s.size - (intOf i).toNat)
    case atStart => exact ⟨1, by omega, by omega, rfl, fun j a b => absurd b (by omega)⟩
    case round =>
      obtain ⟨k, hk1, hk, rfl, HA⟩ := hrel
      by_cases hlt : k < s.size
      · have hb := at8_lt s k hlt
        have HB := Lib.hid hb
        clear hb
        by_cases c1 : (s[k].toNat : Int) < 49
        · go_wp2
          go_ret
          exact ⟨ret_bool (right_low k hk1 (by have := HL.out; omega) (by have := HB.out; omega)).symm, rfl⟩
        · by_cases c2 : 57 < (s[k].toNat : Int)
          · go_wp2
            go_ret
            exact ⟨ret_bool (right_high k hk1 (by have := HL.out; omega) (by have := HB.out; omega)).symm, rfl⟩
          · go_wp2
            go_round
            case rel =>
              refine ⟨k + 1, by omega, by omega, by go_num, fun j a b => ?_⟩
              by_cases e : j = k
              · subst e; have := HB.out; omega
              · exact HA.out j a (by omega)
            case measure => simp [intOf]; omega
      · go_wp2
        go_ret
        exact ⟨ret_bool (right_true (by have := HL.out; omega) (by have := HL.out; omega) HZ.out (fun j a b => HA.out j a (by have := HL.out; omega))).symm, rfl⟩
theorem rright_is (s : ByteArray) (b : Bool) (h : Hid (rightL s.data.toList = b)) (w : World) :
    Calls Try.prog 58 #[.string s] w fun e w' => e = .returned (.bool b) ∧ w = w' := by
  rw [← h.out]; exact rright_any s w
end Go.Proofs.Ytpaiigminmakgaa

/- zone.Whole of a place whose parts are whole numbers. -/
namespace Go.Proofs.Ytpaiigminmakgaa
open Go.RowKit

theorem trunc_fl (n : Int) (h : n.natAbs < 2 ^ 53) : FloatKind.f64.encode ((FloatKind.f64.decode (fl n)).integral .zero) = fl n := by
  obtain ⟨s, e, hs⟩ := integral_num (read_fl n h)
  show Ieee.double.write ((Ieee.double.read (fl n)).integral .zero) = fl n
  by_cases h0 : n = 0
  · subst h0
    decide
  · rw [e, hs h0]; rfl
theorem trunc_aux (x : Nat) (s : Bool) (m : Nat) (e : Int) (hd : FloatKind.f64.decode x = .number s m e) : Extern.MathFloor.toIntegral "math.archTrunc" .zero #[.float .f64 x] = pure (.float .f64 (FloatKind.f64.encode ((Ieee.Datum.number s m e).integral .zero))) := by
  obtain ⟨f, hf⟩ : ∃ f : Bool → Nat → Sem Value, Extern.MathFloor.toIntegral "math.archTrunc" .zero #[.float .f64 x] = (match FloatKind.f64.decode x with | .nan s t => f s t | d => pure (.float .f64 (FloatKind.f64.encode (d.integral .zero)))) := ⟨_, rfl⟩
  rw [hf, hd]
theorem run_trunc (n : Int) (h : n.natAbs < 2 ^ 53) (w : World) : (Extern.MathFloor.toIntegral "math.archTrunc" .zero #[.float .f64 (fl n)]).run Try.prog w = .ok (.float .f64 (fl n)) w := by
  have ht := trunc_fl n h
  obtain ⟨s, j, e, _⟩ := read_fl n h
  have e' : FloatKind.f64.decode (fl n) = .number s (n.natAbs * 2 ^ j) (-(j : Int)) := e
  rw [e'] at ht
  rw [trunc_aux _ _ _ _ e', ht]
  rfl
/-- How two floats of whole numbers stand. -/
theorem order_fl (a b : Int) (ha : a.natAbs < 2 ^ 53) (hb : b.natAbs < 2 ^ 53) : FloatKind.f64.format.order (fl a) (fl b) = some (compare a b) := order_num (read_fl a ha) (read_fl b hb)
theorem fl_lo : (13875379345695965184 : Nat) = fl (-1000) := by decide
theorem fl_hi : (4652007308841189376 : Nat) = fl 1000 := by decide
theorem leq_fl (a b : Int) (ha : a.natAbs < 2 ^ 53) (hb : b.natAbs < 2 ^ 53) : (FloatKind.f64.format.order (fl a) (fl b) == some .lt || FloatKind.f64.format.order (fl a) (fl b) == some .eq) = decide (a ≤ b) := by
  rw [order_fl a b ha hb]
  rcases Int.lt_trichotomy a b with h | h | h
  · rw [Int.compare_eq_lt.mpr h]; simp; omega
  · subst h; simp
  · rw [Int.compare_eq_gt.mpr h]; simp; omega
theorem eql_fl (a b : Int) (ha : a.natAbs < 2 ^ 53) (hb : b.natAbs < 2 ^ 53) : (FloatKind.f64.format.order (fl a) (fl b) == some .eq) = decide (a = b) := by
  rw [order_fl a b ha hb]
  rcases Int.lt_trichotomy a b with h | h | h
  · rw [Int.compare_eq_lt.mpr h]; simp; omega
  · subst h; simp
  · rw [Int.compare_eq_gt.mpr h]; simp; omega

set_option maxRecDepth 100000 in
set_option maxHeartbeats 1000000 in
theorem trunc_any (n : Int) (h : n.natAbs < 2 ^ 53) (w : World) : Calls Try.prog 85 #[.float .f64 (fl n)] w fun e w' => e = .returned (.float .f64 (fl n)) ∧ w = w' := by
  have HR := Lib.hid (run_trunc n h)
  generalize fl n = x at *
  go_enter Try.func85, Try.ntmps85
  go_wp2
  rw [run_callFunc_extern Try.func92 (by kernel_rfl) (by kernel_rfl) (by kernel_rfl) (e := Extern.MathFloor.toIntegral "math.archTrunc" .zero) (by kernel_rfl), HR.out]
  simp only [Result.andThen]
  rw [Oper.upon_value]
  go_wp2
  go_ret
  exact ⟨rfl, rfl⟩

def withinF (n lo hi : Int) : Bool := decide (lo ≤ n) && decide (n ≤ hi)

set_option maxRecDepth 100000 in
set_option maxHeartbeats 1000000 in
theorem wholeWithin_any (n lo hi : Int) (hn : n.natAbs < 2 ^ 53) (hl : lo.natAbs < 2 ^ 53) (hh : hi.natAbs < 2 ^ 53) (w : World) :
    Calls Try.prog 75 #[.float .f64 (fl n), .float .f64 (fl lo), .float .f64 (fl hi)] w fun e w' => e = .returned (.bool (withinF n lo hi)) ∧ w = w' := by
  have h1 := leq_fl lo n hl hn
  have h2 := leq_fl n hi hn hh
  have h3 := eql_fl n n hn hn
  have HT := Lib.hid (trunc_any n hn)
  have HW := Lib.hid (show withinF n lo hi = (decide (lo ≤ n) && decide (n ≤ hi)) from rfl)
  generalize fl n = x at *
  generalize fl lo = l at *
  generalize fl hi = u at *
  by_cases c1 : lo ≤ n
  · rw [decide_eq_true c1] at h1 HW
    by_cases c2 : n ≤ hi
    · rw [decide_eq_true c2] at h2 HW
      rw [show decide (n = n) = true by simp] at h3
      clear c1 c2
      go_enter Try.func75, Try.ntmps75
      go_wp2_with fail
      refine (HT.out _).mono ?_
      rintro e w1 ⟨rfl, rfl⟩
      go_wp2
      go_ret
      exact ⟨ret_bool (by rw [HW.out]; rfl), rfl⟩
    · rw [decide_eq_false c2] at h2 HW
      clear c1 c2
      go_enter Try.func75, Try.ntmps75
      go_wp2
      go_ret
      exact ⟨ret_bool (by rw [HW.out]; rfl), rfl⟩
  · rw [decide_eq_false c1] at h1 HW
    clear c1
    go_enter Try.func75, Try.ntmps75
    go_wp2
    go_ret
    exact ⟨ret_bool (by rw [HW.out]; rfl), rfl⟩

/-- Is a place one? -/
def wholeF (x y : Int) : Bool := withinF x (-1000) 1000 && withinF y (-1000) 1000

set_option maxRecDepth 100000 in
set_option maxHeartbeats 1000000 in
theorem whole_any (x y : Int) (hx : x.natAbs < 2 ^ 53) (hy : y.natAbs < 2 ^ 53) (w : World) :
    Calls Try.prog 57 #[.complex .f64 (fl x) (fl y)] w fun e w' => e = .returned (.bool (wholeF x y)) ∧ w = w' := by
  have H1 := Lib.hid (wholeWithin_any x (-1000) 1000 hx (by decide) (by decide))
  have H2 := Lib.hid (wholeWithin_any y (-1000) 1000 hy (by decide) (by decide))
  rw [← fl_lo, ← fl_hi] at H1 H2
  have HW := Lib.hid (show wholeF x y = (withinF x (-1000) 1000 && withinF y (-1000) 1000) from rfl)
  generalize fl x = fx at *
  generalize fl y = fy at *
  generalize withinF x (-1000) 1000 = b1 at *
  generalize withinF y (-1000) 1000 = b2 at *
  go_enter Try.func57, Try.ntmps57
  go_wp2_with fail
  refine (H1.out _).mono ?_
  rintro e w1 ⟨rfl, rfl⟩
  cases b1
  · go_wp2
    go_ret
    exact ⟨ret_bool (by rw [HW.out]; rfl), rfl⟩
  · go_wp2_with fail
    refine (H2.out _).mono ?_
    rintro e w1 ⟨rfl, rfl⟩
    go_wp2
    go_ret
    exact ⟨ret_bool (by rw [HW.out]; rfl), rfl⟩
end Go.Proofs.Ytpaiigminmakgaa

/- Plain mathematics of the names of layer 1: prefixes, the order, the document's Fix. -/
namespace Go.Proofs.Ytpaiigminmakgaa

/-- Does b come from a? -/
def aboveL (a b : List UInt8) : Bool := rightL a && rightL b && decide (a.length < b.length) && Lib.hasPrefix b a

theorem aboveL_iff (a b : List UInt8) : aboveL a b = true ↔ rightL a = true ∧ rightL b = true ∧ a.length < b.length ∧ a <+: b := by
  unfold aboveL Lib.hasPrefix
  simp [and_assoc]

theorem above_len {a b : List UInt8} (h : b.length ≤ a.length) : aboveL a b = false := by
  rw [Bool.eq_false_iff]; intro e; have := (aboveL_iff _ _).mp e; omega
theorem above_trans {a b c : List UInt8} (h1 : aboveL a b = true) (h2 : aboveL b c = true) : aboveL a c = true := by
  obtain ⟨r1, _, l1, p1⟩ := (aboveL_iff _ _).mp h1
  obtain ⟨_, r2, l2, p2⟩ := (aboveL_iff _ _).mp h2
  exact (aboveL_iff _ _).mpr ⟨r1, r2, by omega, p1.trans p2⟩
theorem above_two {a b c : List UInt8} (h1 : aboveL a c = true) (h2 : aboveL b c = true) : a = b ∨ aboveL a b = true ∨ aboveL b a = true := by
  obtain ⟨r1, _, l1, p1⟩ := (aboveL_iff _ _).mp h1
  obtain ⟨r2, _, l2, p2⟩ := (aboveL_iff _ _).mp h2
  rcases Nat.lt_trichotomy a.length b.length with h | h | h
  · exact Or.inr (Or.inl ((aboveL_iff _ _).mpr ⟨r1, r2, h, List.prefix_of_prefix_length_le p1 p2 (by omega)⟩))
  · exact Or.inl ((List.prefix_of_prefix_length_le p1 p2 (by omega)).eq_of_length h)
  · exact Or.inr (Or.inr ((aboveL_iff _ _).mpr ⟨r2, r1, h, List.prefix_of_prefix_length_le p2 p1 (by omega)⟩))

theorem cmp_prefix : ∀ (a b : List UInt8), a <+: b → a.length < b.length → Lib.compareBytes a b = -1
  | [], _ :: _, _, _ => by simp [Lib.compareBytes]
  | x :: a, y :: b, h, l => by
    obtain ⟨rfl, h2⟩ := List.cons_prefix_cons.mp h
    unfold Lib.compareBytes
    simp only [UInt8.lt_irrefl, if_false]
    exact cmp_prefix a b h2 (by simpa using l)
theorem above_cmp {a b : List UInt8} (h : aboveL a b = true) : Lib.compareBytes a b = -1 := by
  obtain ⟨_, _, l, p⟩ := (aboveL_iff _ _).mp h
  exact cmp_prefix a b p l

theorem cmp_three : ∀ (a b : List UInt8), Lib.compareBytes a b = -1 ∨ Lib.compareBytes a b = 0 ∨ Lib.compareBytes a b = 1
  | [], [] => by simp [Lib.compareBytes]
  | [], _ :: _ => by simp [Lib.compareBytes]
  | _ :: _, [] => by simp [Lib.compareBytes]
  | x :: a, y :: b => by
    unfold Lib.compareBytes
    split
    · simp
    · split
      · simp
      · exact cmp_three a b
theorem cmp_zero : ∀ (a b : List UInt8), Lib.compareBytes a b = 0 ↔ a = b
  | [], [] => by simp [Lib.compareBytes]
  | [], _ :: _ => by simp [Lib.compareBytes]
  | _ :: _, [] => by simp [Lib.compareBytes]
  | x :: a, y :: b => by
    unfold Lib.compareBytes
    split
    · rename_i h
      have : x ≠ y := fun e => UInt8.lt_irrefl _ (e ▸ h)
      simp [this]
    · split
      · rename_i h
        have : x ≠ y := fun e => UInt8.lt_irrefl _ (e ▸ h)
        simp [this]
      · rename_i h1 h2
        have : x = y := by
          apply UInt8.toNat_inj.mp
          rw [UInt8.lt_iff_toNat_lt] at h1 h2
          omega
        rw [cmp_zero a b, this]; simp
theorem cmp_neg : ∀ (a b : List UInt8), Lib.compareBytes b a = - Lib.compareBytes a b
  | [], [] => by simp [Lib.compareBytes]
  | [], _ :: _ => by simp [Lib.compareBytes]
  | _ :: _, [] => by simp [Lib.compareBytes]
  | x :: a, y :: b => by
    unfold Lib.compareBytes
    by_cases h1 : x < y
    · have h2 : ¬ y < x := fun h => UInt8.lt_irrefl _ (UInt8.lt_trans h h1)
      simp [h1, h2]
    · by_cases h2 : y < x
      · simp [h1, h2]
      · simp [h1, h2, cmp_neg a b]
theorem cmp_trans : ∀ (a b c : List UInt8), Lib.compareBytes a b ≤ 0 → Lib.compareBytes b c ≤ 0 → Lib.compareBytes a c ≤ 0
  | [], _, [], _, _ => by simp [Lib.compareBytes]
  | [], _, _ :: _, _, _ => by simp [Lib.compareBytes]
  | _ :: _, [], _, h, _ => by simp [Lib.compareBytes] at h
  | _ :: _, _ :: _, [], _, h => by simp [Lib.compareBytes] at h
  | x :: a, y :: b, z :: c, h1, h2 => by
    unfold Lib.compareBytes at h1 h2 ⊢
    have key : ¬ y < x ∧ ¬ z < y ∧ (x < y ∨ Lib.compareBytes a b ≤ 0) ∧ (y < z ∨ Lib.compareBytes b c ≤ 0) := by
      refine ⟨fun h => ?_, fun h => ?_, ?_, ?_⟩
      · have h' : ¬ x < y := fun h' => UInt8.lt_irrefl _ (UInt8.lt_trans h h')
        simp [h, h'] at h1
      · have h' : ¬ y < z := fun h' => UInt8.lt_irrefl _ (UInt8.lt_trans h h')
        simp [h, h'] at h2
      · by_cases h : x < y
        · exact Or.inl h
        · right; by_cases h' : y < x
          · simp [h, h'] at h1
          · simpa [h, h'] using h1
      · by_cases h : y < z
        · exact Or.inl h
        · right; by_cases h' : z < y
          · simp [h, h'] at h2
          · simpa [h, h'] using h2
    obtain ⟨n1, n2, k1, k2⟩ := key
    by_cases hxz : x < z
    · simp [hxz]
    · have e1 : x = y := by apply UInt8.toNat_inj.mp; rw [UInt8.lt_iff_toNat_lt] at n1 n2 hxz; omega
      have e2 : y = z := by apply UInt8.toNat_inj.mp; rw [UInt8.lt_iff_toNat_lt] at n1 n2 hxz; omega
      subst e1 e2
      simp only [UInt8.lt_irrefl, false_or, if_false] at k1 k2 ⊢
      exact cmp_trans a b c k1 k2

/-- The order from a place on. -/
theorem cmp_lo {a b : List UInt8} {k : Nat} (ha : k < a.length) (hb : k < b.length) (h : at8 a k < at8 b k) : Lib.compareBytes (a.drop k) (b.drop k) = -1 := by
  rw [List.drop_eq_getElem_cons ha, List.drop_eq_getElem_cons hb]
  unfold Lib.compareBytes
  have : a[k] < b[k] := by
    rw [UInt8.lt_iff_toNat_lt]
    simpa [at8, List.getD_eq_getElem?_getD, ha, hb] using h
  simp [this]
theorem cmp_hi {a b : List UInt8} {k : Nat} (ha : k < a.length) (hb : k < b.length) (h : at8 b k < at8 a k) : Lib.compareBytes (a.drop k) (b.drop k) = 1 := by
  have := cmp_lo hb ha h
  rw [cmp_neg] at this
  omega
theorem cmp_eq {a b : List UInt8} {k : Nat} (ha : k < a.length) (hb : k < b.length) (h : at8 a k = at8 b k) : Lib.compareBytes (a.drop k) (b.drop k) = Lib.compareBytes (a.drop (k + 1)) (b.drop (k + 1)) := by
  rw [List.drop_eq_getElem_cons ha, List.drop_eq_getElem_cons hb]
  have : a[k] = b[k] := by
    apply UInt8.toNat_inj.mp
    simpa [at8, List.getD_eq_getElem?_getD, ha, hb] using h
  rw [Lib.compareBytes, this]
  simp [UInt8.lt_irrefl]
theorem cmp_end {a b : List UInt8} {k : Nat} (h : a.length ≤ k ∨ b.length ≤ k) (ha : k ≤ a.length) (hb : k ≤ b.length) : Lib.compareBytes (a.drop k) (b.drop k) = if a.length < b.length then -1 else if b.length < a.length then 1 else 0 := by
  rcases h with h | h
  · have e : a.length = k := by omega
    rw [List.drop_of_length_le (by omega)]
    by_cases hk : k < b.length
    · rw [List.drop_eq_getElem_cons hk]; simp [Lib.compareBytes]; omega
    · rw [List.drop_of_length_le (by omega)]; simp [Lib.compareBytes]
      rw [if_neg (by omega), if_neg (by omega)]
  · have e : b.length = k := by omega
    rw [List.drop_of_length_le (l := b) (by omega)]
    by_cases hk : k < a.length
    · rw [List.drop_eq_getElem_cons hk]; simp [Lib.compareBytes]; rw [if_neg (by omega), if_pos (by omega)]
    · rw [List.drop_of_length_le (by omega)]; simp [Lib.compareBytes]
      rw [if_neg (by omega), if_neg (by omega)]

/-- The document's Fix: a name out of any text. -/
def fixB (c : UInt8) : UInt8 := UInt8.ofNat (49 + c.toNat % 9)
def fixL (l : List UInt8) : List UInt8 := 48 :: (l.take 5).map fixB
theorem fixB_nat (c : UInt8) : (fixB c).toNat = 49 + c.toNat % 9 := by
  unfold fixB; rw [UInt8.toNat_ofNat']; omega
theorem fixL_len (l : List UInt8) : (fixL l).length = 1 + min 5 l.length := by simp [fixL]; omega
theorem fixL_right (l : List UInt8) : rightL (fixL l) = true := by
  rw [rightL_iff]
  have hl := fixL_len l
  refine ⟨⟨by omega, by omega, rfl⟩, fun j h1 h2 => ?_⟩
  obtain ⟨i, rfl⟩ : ∃ i, j = i + 1 := ⟨j - 1, by omega⟩
  have hi : i < ((l.take 5).map fixB).length := by simpa [fixL] using h2
  have : at8 (fixL l) (i + 1) = (((l.take 5).map fixB)[i]).toNat := by
    unfold at8 fixL
    rw [List.getD_cons_succ, List.getD_eq_getElem?_getD, List.getElem?_eq_getElem hi]; rfl
  rw [this, List.getElem_map, fixB_nat]
  omega

theorem take_right {l : List UInt8} {m : Nat} (h : rightL l = true) (h1 : 1 ≤ m) (h2 : m ≤ l.length) : rightL (l.take m) = true := by
  rw [rightL_iff] at h ⊢
  have hl : (l.take m).length = m := by rw [List.length_take]; omega
  have g : ∀ j, j < m → at8 (l.take m) j = at8 l j := fun j hj => by
    unfold at8
    rw [List.getD_eq_getElem?_getD, List.getD_eq_getElem?_getD, List.getElem?_take_of_lt hj]
  refine ⟨⟨by omega, by omega, by rw [g 0 (by omega)]; exact h.1.2.2⟩, fun j a b => ?_⟩
  rw [g j (by omega)]
  exact h.2 j a (by omega)
theorem above_take {l : List UInt8} {m : Nat} (h : rightL l = true) (h1 : 1 ≤ m) (h2 : m < l.length) : aboveL (l.take m) l = true :=
  (aboveL_iff _ _).mpr ⟨take_right h h1 (by omega), h, by rw [List.length_take]; omega, List.take_prefix _ _⟩
end Go.Proofs.Ytpaiigminmakgaa

/- The names of layer 1: what Compare and the document's Compare answer. -/
namespace Go.Proofs.Ytpaiigminmakgaa
open Go.RowKit

set_option maxRecDepth 100000 in
set_option maxHeartbeats 400000 in
theorem compare_in (a b : ByteArray) (w : World) :
    Calls Try.prog 94 #[.string a, .string b] w fun e w' => e = .returned (.int .i64 (Lib.compareBytes a.data.toList b.data.toList)) ∧ w = w' := by
  go_enter Try.func94, Try.ntmps94
  go_wp2
  rw [run_callFunc_extern Try.func100 (by kernel_rfl) (by kernel_rfl) (by kernel_rfl) (e := Extern.BytealgCompare.compare) (by kernel_rfl), Lib.run_compareString]
  simp only [Result.andThen]
  rw [Oper.upon_value]
  go_wp2
  go_ret
  exact ⟨rfl, rfl⟩
set_option maxRecDepth 100000 in
set_option maxHeartbeats 400000 in
theorem compare_mid (a b : ByteArray) (w : World) :
    Calls Try.prog 87 #[.string a, .string b] w fun e w' => e = .returned (.int .i64 (Lib.compareBytes a.data.toList b.data.toList)) ∧ w = w' := by
  go_enter Try.func87, Try.ntmps87
  go_wp2_with (go_at_call 94; refine (compare_in _ _ _).mono ?_; rintro e w' ⟨rfl, rfl⟩)
  go_ret
  exact ⟨rfl, rfl⟩
set_option maxRecDepth 100000 in
set_option maxHeartbeats 400000 in
theorem compare_any (a b : ByteArray) (w : World) :
    Calls Try.prog 78 #[.string a, .string b] w fun e w' => e = .returned (.int .i64 (Lib.compareBytes a.data.toList b.data.toList)) ∧ w = w' := by
  go_enter Try.func78, Try.ntmps78
  go_wp2_with (go_at_call 87; refine (compare_mid _ _ _).mono ?_; rintro e w' ⟨rfl, rfl⟩)
  go_ret
  exact ⟨rfl, rfl⟩
theorem compare_is (a b : ByteArray) (x : Int) (h : Hid (Lib.compareBytes a.data.toList b.data.toList = x)) (w : World) :
    Calls Try.prog 78 #[.string a, .string b] w fun e w' => e = .returned (.int .i64 x) ∧ w = w' := by
  rw [← h.out]; exact compare_any a b w

/-- A world with some draws more. -/
def Drawn (w w' : World) : Prop := ∃ n, w' = w.drewN n
theorem Drawn.refl (w : World) : Drawn w w := ⟨0, rfl⟩
theorem Drawn.more {w w1 : World} (h : Drawn w w1) (n : Nat) : Drawn w (w1.drewN n) := by
  obtain ⟨m, rfl⟩ := h
  exact ⟨m + n, by simp [World.drewN]; omega⟩

set_option maxRecDepth 100000 in
set_option maxHeartbeats 1000000 in
theorem rcompare_any (a b : ByteArray) (w : World) (ha : a.size ≤ 9223372036854775807) :
    Calls Try.prog 55 #[.string a, .string b] w fun e w' => e = .returned (.int .i64 (Lib.compareBytes a.data.toList b.data.toList)) ∧ Hid (Drawn w w') := by
  have la : a.data.toList.length = a.size := by simp
  have lb : b.data.toList.length = b.size := by simp
  have LA := Lib.hid la
  have LB := Lib.hid lb
  clear la lb
  go_enter Try.func55, Try.ntmps55
  go_wp2
  go_loopw [5] (fun i wr => ∃ k : Nat, k ≤ a.size ∧ k ≤ b.size ∧ i = .int .i64 k ∧ Hid (Lib.compareBytes a.data.toList b.data.toList = Lib.compareBytes (a.data.toList.drop k) (b.data.toList.drop k)) ∧ Hid (Drawn w wr)) (fun i _ => a.size - (intOf i).toNat)
  case atStart => exact ⟨0, by omega, by omega, rfl, rfl, Drawn.refl w⟩
  case round =>
    obtain ⟨k, hka, hkb, rfl, HC, HD⟩ := hrel
    by_cases h1 : k < a.size
    · by_cases h2 : k < b.size
      · have ea := Lib.hid (at8_lt a k h1)
        have eb := Lib.hid (at8_lt b k h2)
        by_cases c1 : (a[k].toNat : Int) < (b[k].toNat : Int)
        · go_wp2
          go_quiet (fail)
          go_wp2
          go_ret
          exact ⟨ret_int (by rw [HC.out, cmp_lo (by have := LA.out; omega) (by have := LB.out; omega) (by have := ea.out; have := eb.out; omega)]), HD.out.more _⟩
        · by_cases c2 : (b[k].toNat : Int) < (a[k].toNat : Int)
          · go_wp2
            go_quiet (fail)
            go_wp2
            go_quiet (fail)
            go_wp2
            go_ret
            exact ⟨ret_int (by rw [HC.out, cmp_hi (by have := LA.out; omega) (by have := LB.out; omega) (by have := ea.out; have := eb.out; omega)]), (HD.out.more _).more _⟩
          · go_wp2
            go_quiet (fail)
            go_wp2
            go_quiet (fail)
            go_wp2
            go_roundw
            case rel =>
              exact ⟨k + 1, by omega, by omega, by go_num, by show _ = _; rw [HC.out, cmp_eq (by have := LA.out; omega) (by have := LB.out; omega) (by have := ea.out; have := eb.out; omega)], HD.out.more _⟩
            case measure => simp [intOf]; omega
      · have HE : Hid (Lib.compareBytes a.data.toList b.data.toList = if a.data.toList.length < b.data.toList.length then -1 else if b.data.toList.length < a.data.toList.length then 1 else 0) := by
          show _ = _
          rw [HC.out]; exact cmp_end (Or.inr (by have := LB.out; omega)) (by have := LA.out; omega) (by have := LB.out; omega)
        have c1 : ¬ a.size < b.size := by omega
        have c2 : b.size < a.size := by omega
        go_wp2
        go_ret
        exact ⟨ret_int (by rw [HE.out, if_neg (by have := LA.out; have := LB.out; omega), if_pos (by have := LA.out; have := LB.out; omega)]), HD.out⟩
    · have HE : Hid (Lib.compareBytes a.data.toList b.data.toList = if a.data.toList.length < b.data.toList.length then -1 else if b.data.toList.length < a.data.toList.length then 1 else 0) := by
        show _ = _
        rw [HC.out]; exact cmp_end (Or.inl (by have := LA.out; omega)) (by have := LA.out; omega) (by have := LB.out; omega)
      by_cases c1 : a.size < b.size
      · go_wp2
        go_ret
        exact ⟨ret_int (by rw [HE.out, if_pos (by have := LA.out; have := LB.out; omega)]), HD.out⟩
      · have c2 : ¬ b.size < a.size := by omega
        go_wp2
        go_ret
        exact ⟨ret_int (by rw [HE.out, if_neg (by have := LA.out; have := LB.out; omega), if_neg (by have := LA.out; have := LB.out; omega)]), HD.out⟩

end Go.Proofs.Ytpaiigminmakgaa

/- item: what an item is as a value; counts, rightVersion, kindOf, shifted, Right. -/
namespace Go.Proofs.Ytpaiigminmakgaa
open Go.RowKit

/-- A version. -/
structure Vrs where
  id : ByteArray
  seq : Int
  stamp : Int
/-- An item whose place has whole parts. -/
structure Itm where
  key : Int
  ver : Vrs
  dead : Bool
  x : Int
  y : Int
  text : ByteArray
  held : Bool
def vrsV (v : Vrs) : Value := .agg #[.string v.id, .int .i64 v.seq, .int .i64 v.stamp]
def itmV (i : Itm) : Value := .agg #[.int .i64 i.key, .string i.ver.id, .int .i64 i.ver.seq, .int .i64 i.ver.stamp, .bool i.dead, .complex .f64 (fl i.x) (fl i.y), .string i.text, .bool i.held]

def countsF (n : Int) : Bool := decide (1 ≤ n) && decide (n ≤ 1048576)
def rightV (v : Vrs) : Bool := rightL v.id.data.toList && (countsF v.seq && countsF v.stamp)
def kindF (i : Itm) : Int := if i.dead then 0 else if i.held then 2 else 1

set_option maxRecDepth 100000 in
theorem counts_any (n : Int) (w : World) : Calls Try.prog 74 #[.int .i64 n] w fun e w' => e = .returned (.bool (countsF n)) ∧ w = w' := by
  have HC := Lib.hid (show countsF n = (decide (1 ≤ n) && decide (n ≤ 1048576)) from rfl)
  by_cases h : 1 ≤ n
  · rw [decide_eq_true h] at HC
    go_enter Try.func74, Try.ntmps74
    go_wp2
    go_ret
    exact ⟨ret_bool (by rw [HC.out]; rfl), rfl⟩
  · rw [decide_eq_false h] at HC
    have h' : decide (1 ≤ n) = false := by simpa using h
    go_enter Try.func74, Try.ntmps74
    go_wp2
    go_ret
    exact ⟨ret_bool (by rw [HC.out]; rfl), rfl⟩

set_option maxRecDepth 100000 in
set_option maxHeartbeats 1000000 in
theorem rightVersion_any (v : Vrs) (w : World) : Calls Try.prog 56 #[vrsV v] w fun e w' => e = .returned (.bool (rightV v)) ∧ Below w.heap.size w w' := by
  obtain ⟨d, a, s⟩ := v
  have HC := Lib.hid (show rightV ⟨d, a, s⟩ = (rightL d.data.toList && (countsF a && countsF s)) from rfl)
  have H1 := Lib.hid (counts_any a)
  have H2 := Lib.hid (counts_any s)
  have H3 := Lib.hid (right_any d)
  generalize rightL d.data.toList = b1 at *
  generalize countsF a = b2 at *
  generalize countsF s = b3 at *
  unfold vrsV
  go_enter Try.func56, Try.ntmps56
  go_wp2_with fail
  refine (H3.out _).mono ?_
  rintro e w1 ⟨rfl, rfl⟩
  cases b1
  · go_wp2
    go_ret
    exact ⟨ret_bool (by rw [HC.out]; rfl), (Below.refl _ _).alloc (Nat.le_refl _) _⟩
  · go_wp2_with fail
    refine (H1.out _).mono ?_
    rintro e w1 ⟨rfl, rfl⟩
    cases b2
    · go_wp2
      go_ret
      exact ⟨ret_bool (by rw [HC.out]; rfl), (Below.refl _ _).alloc (Nat.le_refl _) _⟩
    · go_wp2_with fail
      refine (H2.out _).mono ?_
      rintro e w1 ⟨rfl, rfl⟩
      go_wp2
      go_ret
      exact ⟨ret_bool (by rw [HC.out]; rfl), (Below.refl _ _).alloc (Nat.le_refl _) _⟩


theorem int_fl (n : Int) (h : n.natAbs < 2 ^ 53) : floatToIntVal .f64 (fl n) .i64 = some n := by
  unfold floatToIntVal
  have : (FloatKind.f64.decode (fl n)).toInt .zero = some n := toInt_num (read_fl n h)
  rw [this]
  simp only
  rw [if_pos]
  have e1 : IntKind.i64.min = -9223372036854775808 := rfl
  have e2 : IntKind.i64.max = 9223372036854775807 := rfl
  omega


theorem empty_size (s : ByteArray) : s.toList.isEmpty = decide (s.size = 0) := by
  rw [Lib.toList_data]
  have hl : s.data.toList.length = s.size := by simp
  rw [← hl]
  cases s.data.toList <;> simp
/-- May it be? -/
def rightI (i : Itm) : Bool := decide (0 ≤ i.key) && (decide (i.key < 32) && (rightV i.ver && (wholeF i.x i.y && (decide (i.text.size ≤ 16) && (!(i.dead && (!(decide (i.x = 0) && decide (i.y = 0)) || i.held)) && (i.held || decide (i.text.size = 0)))))))

theorem fl_zero : (0 : Nat) = fl 0 := by decide
theorem eql_zero (n : Int) (h : n.natAbs < 2 ^ 53) : (FloatKind.f64.format.order (fl n) 0 == some .eq) = decide (n = 0) := by
  have := eql_fl n 0 h (by decide)
  rwa [← fl_zero] at this

set_option maxRecDepth 100000 in
set_option maxHeartbeats 4000000 in
theorem itemRight_any (i : Itm) (hx : i.x.natAbs < 2 ^ 53) (hy : i.y.natAbs < 2 ^ 53) (w : World) : Calls Try.prog 33 #[itmV i] w fun e w' => e = .returned (.bool (rightI i)) ∧ Below w.heap.size w w' := by
  obtain ⟨key, v, dead, x, y, text, held⟩ := i
  have HC := Lib.hid (show rightI ⟨key, v, dead, x, y, text, held⟩ = (decide (0 ≤ key) && (decide (key < 32) && (rightV v && (wholeF x y && (decide (text.size ≤ 16) && (!(dead && (!(decide (x = 0) && decide (y = 0)) || held)) && (held || decide (text.size = 0)))))))) from rfl)
  have H1 := Lib.hid (rightVersion_any v)
  have H2 := Lib.hid (whole_any x y hx hy)
  have z1 := eql_zero x hx
  have z2 := eql_zero y hy
  unfold itmV
  simp only at hx hy ⊢
  unfold vrsV at H1
  obtain ⟨d, a, s⟩ := v
  simp only at H1 ⊢
  generalize rightV ⟨d, a, s⟩ = b1 at *
  generalize wholeF x y = b2 at *
  generalize fl x = fx at *
  generalize fl y = fy at *
  generalize decide (x = 0) = b3 at *
  generalize decide (y = 0) = b4 at *
  clear hx hy
  by_cases k0 : key < 0
  · rw [decide_eq_false (by omega)] at HC
    go_enter Try.func33, Try.ntmps33
    go_wp2
    go_ret
    exact ⟨ret_bool (by rw [HC.out]; rfl), (Below.refl _ _).alloc (Nat.le_refl _) _⟩
  · rw [decide_eq_true (show 0 ≤ key by omega)] at HC
    by_cases k1 : 32 ≤ key
    · rw [decide_eq_false (show ¬ key < 32 by omega)] at HC
      go_enter Try.func33, Try.ntmps33
      go_wp2
      go_ret
      exact ⟨ret_bool (by rw [HC.out]; rfl), (Below.refl _ _).alloc (Nat.le_refl _) _⟩
    · rw [decide_eq_true (show key < 32 by omega)] at HC
      go_enter Try.func33, Try.ntmps33
      go_wp2_with fail
      refine (H1.out _).mono ?_
      rintro e w1 ⟨rfl, hb⟩
      have q4 : w1.cell? ⟨w.heap.size, 4, none⟩ = some (.bool dead) := (hb.cell (by simp)).trans (by simp [go_sem])
      have q5 : w1.cell? ⟨w.heap.size, 5, none⟩ = some (.complex .f64 fx fy) := (hb.cell (by simp)).trans (by simp [go_sem])
      have q6 : w1.cell? ⟨w.heap.size, 6, none⟩ = some (.string text) := (hb.cell (by simp)).trans (by simp [go_sem])
      have q7 : w1.cell? ⟨w.heap.size, 7, none⟩ = some (.bool held) := (hb.cell (by simp)).trans (by simp [go_sem])
      have HB : Hid (Below w.heap.size w w1) := ((Below.refl _ _).alloc (Nat.le_refl _) _).trans (hb.mono (by simp))
      clear hb H1 k0 k1
      cases b1
      · go_wp2
        go_ret
        exact ⟨ret_bool (by rw [HC.out]; rfl), HB.out⟩
      · go_wp2_with fail
        refine (H2.out _).mono ?_
        rintro e w2 ⟨rfl, rfl⟩
        cases b2
        · go_wp2
          go_ret
          exact ⟨ret_bool (by rw [HC.out]; rfl), HB.out⟩
        · by_cases t16 : 16 < text.size
          · have t16' : (16 : Int) < text.size := by omega
            rw [decide_eq_false (show ¬ text.size ≤ 16 by omega)] at HC
            go_wp2
            go_ret
            exact ⟨ret_bool (by rw [HC.out]; rfl), HB.out⟩
          · have t16' : ¬ ((16 : Int) < text.size) := by omega
            rw [decide_eq_true (show text.size ≤ 16 by omega)] at HC
            have HE := Lib.hid (empty_size text)
            rw [← HE.out] at HC
            clear t16
            cases dead <;> cases held <;> cases b3 <;> cases b4
            all_goals
              go_wp2
              go_ret
              exact ⟨ret_bool (by rw [HC.out]; simp), HB.out⟩
end Go.Proofs.Ytpaiigminmakgaa

/- Versions: Newer, as the program has it and as the document does; what an item that may be keeps to. -/
namespace Go.Proofs.Ytpaiigminmakgaa
open Go.RowKit

theorem store_complex (W : World) (a : Addr) (k : FloatKind) (x y : Nat) (m : Mode) : (store a (.complex k x y) m).run Try.prog W = stored Try.prog W a (.complex k x y) m := run_store _ W a _ m rfl
theorem zero_fl : fl 0 = 0 := by decide
/-- Does a win against b? -/
def newerF (a b : Vrs) : Bool := if a.stamp = b.stamp then decide (0 < Lib.compareBytes a.id.data.toList b.id.data.toList) else decide (b.stamp < a.stamp)
set_option maxRecDepth 100000 in
set_option maxHeartbeats 1000000 in
theorem newer_any (a b : Vrs) (w : World) : Calls Try.prog 63 #[vrsV a, vrsV b] w fun e w' => e = .returned (.bool (newerF a b)) ∧ Below w.heap.size w w' := by
  obtain ⟨d1, a1, s1⟩ := a
  obtain ⟨d2, a2, s2⟩ := b
  have HN := Lib.hid (show newerF ⟨d1, a1, s1⟩ ⟨d2, a2, s2⟩ = if s1 = s2 then decide (0 < Lib.compareBytes d1.data.toList d2.data.toList) else decide (s2 < s1) from rfl)
  generalize newerF ⟨d1, a1, s1⟩ ⟨d2, a2, s2⟩ = N at *
  have HC := Lib.hid (compare_any d1 d2)
  generalize Lib.compareBytes d1.data.toList d2.data.toList = c at *
  unfold vrsV
  by_cases h : s1 = s2
  · subst h
    rw [if_pos rfl] at HN
    go_enter Try.func63, Try.ntmps63
    go_wp2_with fail
    refine (HC.out _).mono ?_
    rintro e w1 ⟨rfl, rfl⟩
    go_wp2
    go_ret
    exact ⟨ret_bool (by rw [HN.out]), ((Below.refl _ _).alloc (Nat.le_refl _) _).alloc (by simp) _⟩
  · rw [if_neg h] at HN
    have h1 : (s1 != s2) = true := by simpa using h
    go_enter Try.func63, Try.ntmps63
    go_wp2
    go_ret
    exact ⟨ret_bool (by rw [HN.out]), ((Below.refl _ _).alloc (Nat.le_refl _) _).alloc (by simp) _⟩
theorem right_bounds {i : Itm} (h : rightI i = true) : 0 ≤ i.key ∧ i.key < 32 ∧ rightV i.ver = true ∧ wholeF i.x i.y = true ∧ i.text.size ≤ 16 ∧ (i.dead = true → i.x = 0 ∧ i.y = 0 ∧ i.held = false) ∧ (i.held = false → i.text.size = 0) := by
  unfold rightI at h
  simp only [Bool.and_eq_true, decide_eq_true_eq, Bool.not_eq_true', Bool.or_eq_true] at h
  obtain ⟨h1, h2, h3, h4, h5, h6, h7⟩ := h
  refine ⟨h1, h2, h3, h4, h5, fun hd => ?_, fun hh => ?_⟩
  · rw [hd] at h6
    simp at h6
    exact ⟨h6.1.1, h6.1.2, h6.2⟩
  · rw [hh] at h7
    simpa using h7
theorem rightV_bounds {v : Vrs} (h : rightV v = true) : rightL v.id.data.toList = true ∧ v.id.size ≤ 6 ∧ 1 ≤ v.seq ∧ v.seq ≤ 1048576 ∧ 1 ≤ v.stamp ∧ v.stamp ≤ 1048576 := by
  unfold rightV countsF at h
  simp only [Bool.and_eq_true, decide_eq_true_eq] at h
  have h1 := (rightL_iff _).mp h.1
  have hl : v.id.data.toList.length = v.id.size := by simp
  exact ⟨h.1, by omega, h.2.1.1, h.2.1.2, h.2.2.1, h.2.2.2⟩
theorem whole_bounds {x y : Int} (h : wholeF x y = true) : -1000 ≤ x ∧ x ≤ 1000 ∧ -1000 ≤ y ∧ y ≤ 1000 := by
  unfold wholeF withinF at h
  simp only [Bool.and_eq_true, decide_eq_true_eq] at h
  omega


set_option maxRecDepth 100000 in
set_option maxHeartbeats 1000000 in
theorem ver_raw (d : ByteArray) (a s : Int) (w : World) : Calls Try.prog 42 #[.agg #[.string d, .int .i64 a, .int .i64 s]] w fun e w' => e = .returned (.agg #[.string d, .int .i64 a, .int .i64 s]) ∧ Below w.heap.size w w' := by
  go_enter Try.func42, Try.ntmps42
  go_wp2
  refine bodyPost_ret (v := .agg #[.string d, .int .i64 a, .int .i64 s]) ?_ rfl ?_
  · simp [results, Try.results42, go_sem]
  · exact ⟨rfl, ((Below.refl _ _).alloc (Nat.le_refl _) _).alloc (by simp) _⟩
theorem newer_raw (d1 : ByteArray) (a1 s1 : Int) (d2 : ByteArray) (a2 s2 : Int) (w : World) : Calls Try.prog 63 #[.agg #[.string d1, .int .i64 a1, .int .i64 s1], .agg #[.string d2, .int .i64 a2, .int .i64 s2]] w fun e w' => e = .returned (.bool (newerF ⟨d1, a1, s1⟩ ⟨d2, a2, s2⟩)) ∧ Below w.heap.size w w' := newer_any ⟨d1, a1, s1⟩ ⟨d2, a2, s2⟩ w

theorem below_drawn {w w1 w2 : World} (h : Below w.heap.size w w1) (hd : Drawn w1 w2) : Below w.heap.size w w2 := by
  obtain ⟨n, rfl⟩ := hd
  exact h.trans ⟨rfl, rfl, rfl, Nat.le_refl _, fun _ _ => rfl⟩

set_option maxRecDepth 100000 in
set_option maxHeartbeats 1000000 in
theorem rnewer_raw (d1 : ByteArray) (a1 s1 : Int) (d2 : ByteArray) (a2 s2 : Int) (h1 : d1.size ≤ 9223372036854775807) (w : World) : Calls Try.prog 32 #[.agg #[.string d1, .int .i64 a1, .int .i64 s1], .agg #[.string d2, .int .i64 a2, .int .i64 s2]] w fun e w' => e = .returned (.bool (newerF ⟨d1, a1, s1⟩ ⟨d2, a2, s2⟩)) ∧ Below w.heap.size w w' := by
  have HN := Lib.hid (show newerF ⟨d1, a1, s1⟩ ⟨d2, a2, s2⟩ = if s1 = s2 then decide (0 < Lib.compareBytes d1.data.toList d2.data.toList) else decide (s2 < s1) from rfl)
  generalize newerF ⟨d1, a1, s1⟩ ⟨d2, a2, s2⟩ = N at *
  have HC : Hid (∀ w, Calls Try.prog 55 #[.string d1, .string d2] w fun e w' => e = .returned (.int .i64 (Lib.compareBytes d1.data.toList d2.data.toList)) ∧ Hid (Drawn w w')) := fun w => rcompare_any d1 d2 w h1
  generalize Lib.compareBytes d1.data.toList d2.data.toList = c at *
  clear h1
  by_cases h : s1 = s2
  · subst h
    rw [if_pos rfl] at HN
    go_enter Try.func32, Try.ntmps32
    go_wp2_with fail
    refine (HC.out _).mono ?_
    rintro e w1 ⟨rfl, hd⟩
    have HB : Hid (Below w.heap.size w w1) := below_drawn (((Below.refl _ _).alloc (Nat.le_refl _) _).alloc (by simp) _) hd.out
    clear hd
    go_wp2
    go_ret
    exact ⟨ret_bool (by rw [HN.out]), HB.out⟩
  · rw [if_neg h] at HN
    by_cases h2 : s2 < s1
    · rw [decide_eq_true h2] at HN
      have h1 : (s1 == s2) = false := by simpa using h
      go_enter Try.func32, Try.ntmps32
      go_wp2
      go_ret
      exact ⟨ret_bool (by rw [HN.out]), ((Below.refl _ _).alloc (Nat.le_refl _) _).alloc (by simp) _⟩
    · rw [decide_eq_false h2] at HN
      have h1 : (s1 == s2) = false := by simpa using h
      go_enter Try.func32, Try.ntmps32
      go_wp2
      go_ret
      exact ⟨ret_bool (by rw [HN.out]), ((Below.refl _ _).alloc (Nat.le_refl _) _).alloc (by simp) _⟩

theorem newer_true {a b : Vrs} (h : newerF a b = true) : b.stamp < a.stamp ∨ a.stamp = b.stamp ∧ 0 < Lib.compareBytes a.id.data.toList b.id.data.toList := by
  unfold newerF at h
  split at h
  · exact .inr ⟨by assumption, by simpa using h⟩
  · exact .inl (by simpa using h)
theorem newer_of {a b : Vrs} (h : b.stamp < a.stamp ∨ a.stamp = b.stamp ∧ 0 < Lib.compareBytes a.id.data.toList b.id.data.toList) : newerF a b = true := by
  unfold newerF
  split
  · rcases h with h | h
    · omega
    · simpa using h.2
  · rcases h with h | h
    · simpa using h
    · omega
theorem newer_not {a b : Vrs} (h : newerF a b = true) : newerF b a = false := by
  cases e : newerF b a with
  | false => rfl
  | true =>
    have h1 := newer_true h
    have h2 := newer_true e
    have h3 := cmp_neg a.id.data.toList b.id.data.toList
    omega
theorem newer_same {a b : Vrs} (h : newerF a b = false) (h' : newerF b a = false) : a.stamp = b.stamp ∧ a.id = b.id := by
  have h1 : ¬ (b.stamp < a.stamp ∨ a.stamp = b.stamp ∧ 0 < Lib.compareBytes a.id.data.toList b.id.data.toList) := fun x => by rw [newer_of x] at h; cases h
  have h2 : ¬ (a.stamp < b.stamp ∨ b.stamp = a.stamp ∧ 0 < Lib.compareBytes b.id.data.toList a.id.data.toList) := fun x => by rw [newer_of x] at h'; cases h'
  have h3 := cmp_neg a.id.data.toList b.id.data.toList
  have hs : a.stamp = b.stamp := by omega
  have h0 : Lib.compareBytes a.id.data.toList b.id.data.toList = 0 := by
    have h4 : ¬ 0 < Lib.compareBytes a.id.data.toList b.id.data.toList := fun x => h1 (.inr ⟨hs, x⟩)
    have h5 : ¬ 0 < Lib.compareBytes b.id.data.toList a.id.data.toList := fun x => h2 (.inr ⟨hs.symm, x⟩)
    omega
  exact ⟨hs, ByteArray.ext (Array.ext' ((cmp_zero _ _).mp h0))⟩
theorem cmp_pos_trans (a b c : List UInt8) (h1 : 0 < Lib.compareBytes a b) (h2 : 0 < Lib.compareBytes b c) : 0 < Lib.compareBytes a c := by
  have n1 := cmp_neg a b
  have n2 := cmp_neg b c
  have n3 := cmp_neg a c
  have t1 := cmp_trans c b a (by omega) (by omega)
  rcases cmp_three c a with e | e | e
  · omega
  · have := (cmp_zero c a).mp e
    subst this
    have := cmp_trans c b c (by omega) (by omega)
    have h3 := cmp_trans b c b
    omega
  · omega
theorem newer_trans {a b c : Vrs} (h1 : newerF a b = true) (h2 : newerF b c = true) : newerF a c = true := by
  have h3 := newer_true h1
  have h4 := newer_true h2
  apply newer_of
  rcases h3 with h3 | h3
  · left; omega
  · rcases h4 with h4 | h4
    · left; omega
    · exact .inr ⟨by omega, cmp_pos_trans _ _ _ h3.2 h4.2⟩
theorem below_via {B : Nat} {a w W w1 : World} (h : Below B a w) (hb : Below W.heap.size W w1) (hB : B ≤ w.heap.size) (hs : W.os = w.os ∧ W.tape = w.tape ∧ W.output = w.output ∧ W.heap = w.heap) : Below B a w1 := by
  obtain ⟨h1, h2, h3, h4⟩ := hs
  exact ⟨hb.os.trans (h1.trans h.os), hb.tape.trans (h2.trans h.tape), hb.output.trans (h3.trans h.output), Nat.le_trans h.size (by rw [← h4]; exact hb.size), fun k hk => (hb.block k (by rw [h4]; omega)).trans (by rw [h4]; exact h.block k hk)⟩

end Go.Proofs.Ytpaiigminmakgaa

/- Of layer 7's law and the document's answer: a place as the program has it, an item without its text, a place that may be. -/
namespace Go.Proofs.Ytpaiigminmakgaa
open Go.RowKit

/-- An item as the document's answer has it. -/
def refV (i : Itm) : Value := .agg #[.int .i64 i.key, .string i.ver.id, .int .i64 i.ver.seq, .int .i64 i.ver.stamp, .bool i.dead, .int .i64 i.x, .int .i64 i.y, .string i.text, .bool i.held]
def stubI (i : Itm) : Itm := { i with text := ⟨#[]⟩, held := false }

set_option maxRecDepth 100000 in
set_option maxHeartbeats 1000000 in
theorem lawSpot_any (x y : Int) (w : World) : Calls Try.prog 43 #[.agg #[.int .i64 x, .int .i64 y]] w fun e w' => e = .returned (.complex .f64 (fl x) (fl y)) ∧ Below w.heap.size w w' := by
  have hc : ∀ (n : Int) w, (convert 3 109 (.int .i64 n)).run Try.prog w = .ok (.float .f64 (fl n)) w := fun n w => run_convert_int_float w 3 109 .i64 .f64 n (by kernel_rfl) Try.underlying109
  generalize fl = g at *
  go_enter Try.func43, Try.ntmps43
  go_wp2
  go_ret
  exact ⟨rfl, (Below.refl _ _).alloc (Nat.le_refl _) _⟩


/-- A part of a place that may be, out of any number. -/
def spotF (n : Int) : Int := n % 18446744073709551616 % 2001 - 1000
theorem spot_wrap (n : Int) : wrap64 (wrap64 ((IntKind.u64.wrap n).tmod 2001) - 1000) = spotF n := by
  have h0 : IntKind.u64.wrap n = n % 18446744073709551616 := rfl
  unfold spotF
  rw [h0, Int.tmod_eq_emod_of_nonneg (by omega)]
  rw [IntWalk.wrap64_in (_ % 2001) (by omega), IntWalk.wrap64_in _ (by omega)]
theorem spotF_in (n : Int) : -1000 ≤ spotF n ∧ spotF n ≤ 1000 := by unfold spotF; omega

set_option maxRecDepth 100000 in
set_option maxHeartbeats 1000000 in
theorem refSpot_any (x y : Int) (w : World) : Calls Try.prog 37 #[.agg #[.int .i64 x, .int .i64 y]] w fun e w' => e = .returned (.agg #[.int .i64 (spotF x), .int .i64 (spotF y)]) ∧ Below w.heap.size w w' := by
  have h2 : ∀ n : Int, wrap64 (wrap64 ((IntKind.u64.wrap n).tmod 2001) - 1000) = spotF n := spot_wrap
  go_enter Try.func37, Try.ntmps37
  go_wp2
  simp only [h2]
  refine bodyPost_ret (v := .agg #[.int .i64 (spotF x), .int .i64 (spotF y)]) ?_ rfl ?_
  · simp [results, Try.results37, go_sem]
  · exact ⟨rfl, ((Below.refl _ _).alloc (Nat.le_refl _) _).alloc (by simp) _⟩

set_option maxRecDepth 100000 in
set_option maxHeartbeats 1000000 in
theorem to_any (i : Itm) (w : World) : Calls Try.prog 17 #[refV i] w fun e w' => e = .returned (itmV i) ∧ Below w.heap.size w w' := by
  obtain ⟨key, ⟨d, a, s⟩, dead, x, y, text, held⟩ := i
  have HS := Lib.hid (lawSpot_any x y)
  have HV := Lib.hid (ver_raw d a s)
  unfold itmV refV
  simp only
  generalize fl x = fx at *
  generalize fl y = fy at *
  have hst := store_complex
  go_enter Try.func17, Try.ntmps17
  go_wp2_with fail
  have k0 : ((w.alloc (.cells #[.int .i64 key, .string d, .int .i64 a, .int .i64 s, .bool dead, .int .i64 x, .int .i64 y, .string text, .bool held] 28)).alloc (.cells #[.int .i64 0, .string ⟨#[]⟩, .int .i64 0, .int .i64 0, .bool false, .complex .f64 0 0, .string ⟨#[]⟩, .bool false] 46)).cell? ⟨w.heap.size, 0, none⟩ = some (.int .i64 key) := by simp [go_sem]
  have k1 : ((w.alloc (.cells #[.int .i64 key, .string d, .int .i64 a, .int .i64 s, .bool dead, .int .i64 x, .int .i64 y, .string text, .bool held] 28)).alloc (.cells #[.int .i64 0, .string ⟨#[]⟩, .int .i64 0, .int .i64 0, .bool false, .complex .f64 0 0, .string ⟨#[]⟩, .bool false] 46)).cell? ⟨w.heap.size, 1, none⟩ = some (.string d) := by simp [go_sem]
  have k2 : ((w.alloc (.cells #[.int .i64 key, .string d, .int .i64 a, .int .i64 s, .bool dead, .int .i64 x, .int .i64 y, .string text, .bool held] 28)).alloc (.cells #[.int .i64 0, .string ⟨#[]⟩, .int .i64 0, .int .i64 0, .bool false, .complex .f64 0 0, .string ⟨#[]⟩, .bool false] 46)).cell? ⟨w.heap.size, 2, none⟩ = some (.int .i64 a) := by simp [go_sem]
  have k3 : ((w.alloc (.cells #[.int .i64 key, .string d, .int .i64 a, .int .i64 s, .bool dead, .int .i64 x, .int .i64 y, .string text, .bool held] 28)).alloc (.cells #[.int .i64 0, .string ⟨#[]⟩, .int .i64 0, .int .i64 0, .bool false, .complex .f64 0 0, .string ⟨#[]⟩, .bool false] 46)).cell? ⟨w.heap.size, 3, none⟩ = some (.int .i64 s) := by simp [go_sem]
  have k4 : ((w.alloc (.cells #[.int .i64 key, .string d, .int .i64 a, .int .i64 s, .bool dead, .int .i64 x, .int .i64 y, .string text, .bool held] 28)).alloc (.cells #[.int .i64 0, .string ⟨#[]⟩, .int .i64 0, .int .i64 0, .bool false, .complex .f64 0 0, .string ⟨#[]⟩, .bool false] 46)).cell? ⟨w.heap.size, 4, none⟩ = some (.bool dead) := by simp [go_sem]
  have k5 : ((w.alloc (.cells #[.int .i64 key, .string d, .int .i64 a, .int .i64 s, .bool dead, .int .i64 x, .int .i64 y, .string text, .bool held] 28)).alloc (.cells #[.int .i64 0, .string ⟨#[]⟩, .int .i64 0, .int .i64 0, .bool false, .complex .f64 0 0, .string ⟨#[]⟩, .bool false] 46)).cell? ⟨w.heap.size, 5, none⟩ = some (.int .i64 x) := by simp [go_sem]
  have k6 : ((w.alloc (.cells #[.int .i64 key, .string d, .int .i64 a, .int .i64 s, .bool dead, .int .i64 x, .int .i64 y, .string text, .bool held] 28)).alloc (.cells #[.int .i64 0, .string ⟨#[]⟩, .int .i64 0, .int .i64 0, .bool false, .complex .f64 0 0, .string ⟨#[]⟩, .bool false] 46)).cell? ⟨w.heap.size, 6, none⟩ = some (.int .i64 y) := by simp [go_sem]
  have k7 : ((w.alloc (.cells #[.int .i64 key, .string d, .int .i64 a, .int .i64 s, .bool dead, .int .i64 x, .int .i64 y, .string text, .bool held] 28)).alloc (.cells #[.int .i64 0, .string ⟨#[]⟩, .int .i64 0, .int .i64 0, .bool false, .complex .f64 0 0, .string ⟨#[]⟩, .bool false] 46)).cell? ⟨w.heap.size, 7, none⟩ = some (.string text) := by simp [go_sem]
  have k8 : ((w.alloc (.cells #[.int .i64 key, .string d, .int .i64 a, .int .i64 s, .bool dead, .int .i64 x, .int .i64 y, .string text, .bool held] 28)).alloc (.cells #[.int .i64 0, .string ⟨#[]⟩, .int .i64 0, .int .i64 0, .bool false, .complex .f64 0 0, .string ⟨#[]⟩, .bool false] 46)).cell? ⟨w.heap.size, 8, none⟩ = some (.bool held) := by simp [go_sem]
  have z0 : ((w.alloc (.cells #[.int .i64 key, .string d, .int .i64 a, .int .i64 s, .bool dead, .int .i64 x, .int .i64 y, .string text, .bool held] 28)).alloc (.cells #[.int .i64 0, .string ⟨#[]⟩, .int .i64 0, .int .i64 0, .bool false, .complex .f64 0 0, .string ⟨#[]⟩, .bool false] 46)).cell? ⟨w.heap.size + 1, 0, none⟩ = some (.int .i64 0) := by simp [go_sem]
  have y0 : ((w.alloc (.cells #[.int .i64 key, .string d, .int .i64 a, .int .i64 s, .bool dead, .int .i64 x, .int .i64 y, .string text, .bool held] 28)).alloc (.cells #[.int .i64 0, .string ⟨#[]⟩, .int .i64 0, .int .i64 0, .bool false, .complex .f64 0 0, .string ⟨#[]⟩, .bool false] 46)).frozen? ⟨w.heap.size + 1, 0, none⟩ = false := by simp [go_sem]
  have z1 : ((w.alloc (.cells #[.int .i64 key, .string d, .int .i64 a, .int .i64 s, .bool dead, .int .i64 x, .int .i64 y, .string text, .bool held] 28)).alloc (.cells #[.int .i64 0, .string ⟨#[]⟩, .int .i64 0, .int .i64 0, .bool false, .complex .f64 0 0, .string ⟨#[]⟩, .bool false] 46)).cell? ⟨w.heap.size + 1, 1, none⟩ = some (.string ⟨#[]⟩) := by simp [go_sem]
  have y1 : ((w.alloc (.cells #[.int .i64 key, .string d, .int .i64 a, .int .i64 s, .bool dead, .int .i64 x, .int .i64 y, .string text, .bool held] 28)).alloc (.cells #[.int .i64 0, .string ⟨#[]⟩, .int .i64 0, .int .i64 0, .bool false, .complex .f64 0 0, .string ⟨#[]⟩, .bool false] 46)).frozen? ⟨w.heap.size + 1, 1, none⟩ = false := by simp [go_sem]
  have z2 : ((w.alloc (.cells #[.int .i64 key, .string d, .int .i64 a, .int .i64 s, .bool dead, .int .i64 x, .int .i64 y, .string text, .bool held] 28)).alloc (.cells #[.int .i64 0, .string ⟨#[]⟩, .int .i64 0, .int .i64 0, .bool false, .complex .f64 0 0, .string ⟨#[]⟩, .bool false] 46)).cell? ⟨w.heap.size + 1, 2, none⟩ = some (.int .i64 0) := by simp [go_sem]
  have y2 : ((w.alloc (.cells #[.int .i64 key, .string d, .int .i64 a, .int .i64 s, .bool dead, .int .i64 x, .int .i64 y, .string text, .bool held] 28)).alloc (.cells #[.int .i64 0, .string ⟨#[]⟩, .int .i64 0, .int .i64 0, .bool false, .complex .f64 0 0, .string ⟨#[]⟩, .bool false] 46)).frozen? ⟨w.heap.size + 1, 2, none⟩ = false := by simp [go_sem]
  have z3 : ((w.alloc (.cells #[.int .i64 key, .string d, .int .i64 a, .int .i64 s, .bool dead, .int .i64 x, .int .i64 y, .string text, .bool held] 28)).alloc (.cells #[.int .i64 0, .string ⟨#[]⟩, .int .i64 0, .int .i64 0, .bool false, .complex .f64 0 0, .string ⟨#[]⟩, .bool false] 46)).cell? ⟨w.heap.size + 1, 3, none⟩ = some (.int .i64 0) := by simp [go_sem]
  have y3 : ((w.alloc (.cells #[.int .i64 key, .string d, .int .i64 a, .int .i64 s, .bool dead, .int .i64 x, .int .i64 y, .string text, .bool held] 28)).alloc (.cells #[.int .i64 0, .string ⟨#[]⟩, .int .i64 0, .int .i64 0, .bool false, .complex .f64 0 0, .string ⟨#[]⟩, .bool false] 46)).frozen? ⟨w.heap.size + 1, 3, none⟩ = false := by simp [go_sem]
  have z4 : ((w.alloc (.cells #[.int .i64 key, .string d, .int .i64 a, .int .i64 s, .bool dead, .int .i64 x, .int .i64 y, .string text, .bool held] 28)).alloc (.cells #[.int .i64 0, .string ⟨#[]⟩, .int .i64 0, .int .i64 0, .bool false, .complex .f64 0 0, .string ⟨#[]⟩, .bool false] 46)).cell? ⟨w.heap.size + 1, 4, none⟩ = some (.bool false) := by simp [go_sem]
  have y4 : ((w.alloc (.cells #[.int .i64 key, .string d, .int .i64 a, .int .i64 s, .bool dead, .int .i64 x, .int .i64 y, .string text, .bool held] 28)).alloc (.cells #[.int .i64 0, .string ⟨#[]⟩, .int .i64 0, .int .i64 0, .bool false, .complex .f64 0 0, .string ⟨#[]⟩, .bool false] 46)).frozen? ⟨w.heap.size + 1, 4, none⟩ = false := by simp [go_sem]
  have z5 : ((w.alloc (.cells #[.int .i64 key, .string d, .int .i64 a, .int .i64 s, .bool dead, .int .i64 x, .int .i64 y, .string text, .bool held] 28)).alloc (.cells #[.int .i64 0, .string ⟨#[]⟩, .int .i64 0, .int .i64 0, .bool false, .complex .f64 0 0, .string ⟨#[]⟩, .bool false] 46)).cell? ⟨w.heap.size + 1, 5, none⟩ = some (.complex .f64 0 0) := by simp [go_sem]
  have y5 : ((w.alloc (.cells #[.int .i64 key, .string d, .int .i64 a, .int .i64 s, .bool dead, .int .i64 x, .int .i64 y, .string text, .bool held] 28)).alloc (.cells #[.int .i64 0, .string ⟨#[]⟩, .int .i64 0, .int .i64 0, .bool false, .complex .f64 0 0, .string ⟨#[]⟩, .bool false] 46)).frozen? ⟨w.heap.size + 1, 5, none⟩ = false := by simp [go_sem]
  have z6 : ((w.alloc (.cells #[.int .i64 key, .string d, .int .i64 a, .int .i64 s, .bool dead, .int .i64 x, .int .i64 y, .string text, .bool held] 28)).alloc (.cells #[.int .i64 0, .string ⟨#[]⟩, .int .i64 0, .int .i64 0, .bool false, .complex .f64 0 0, .string ⟨#[]⟩, .bool false] 46)).cell? ⟨w.heap.size + 1, 6, none⟩ = some (.string ⟨#[]⟩) := by simp [go_sem]
  have y6 : ((w.alloc (.cells #[.int .i64 key, .string d, .int .i64 a, .int .i64 s, .bool dead, .int .i64 x, .int .i64 y, .string text, .bool held] 28)).alloc (.cells #[.int .i64 0, .string ⟨#[]⟩, .int .i64 0, .int .i64 0, .bool false, .complex .f64 0 0, .string ⟨#[]⟩, .bool false] 46)).frozen? ⟨w.heap.size + 1, 6, none⟩ = false := by simp [go_sem]
  have z7 : ((w.alloc (.cells #[.int .i64 key, .string d, .int .i64 a, .int .i64 s, .bool dead, .int .i64 x, .int .i64 y, .string text, .bool held] 28)).alloc (.cells #[.int .i64 0, .string ⟨#[]⟩, .int .i64 0, .int .i64 0, .bool false, .complex .f64 0 0, .string ⟨#[]⟩, .bool false] 46)).cell? ⟨w.heap.size + 1, 7, none⟩ = some (.bool false) := by simp [go_sem]
  have y7 : ((w.alloc (.cells #[.int .i64 key, .string d, .int .i64 a, .int .i64 s, .bool dead, .int .i64 x, .int .i64 y, .string text, .bool held] 28)).alloc (.cells #[.int .i64 0, .string ⟨#[]⟩, .int .i64 0, .int .i64 0, .bool false, .complex .f64 0 0, .string ⟨#[]⟩, .bool false] 46)).frozen? ⟨w.heap.size + 1, 7, none⟩ = false := by simp [go_sem]
  have hz0 : w.heap.size < ((w.alloc (.cells #[.int .i64 key, .string d, .int .i64 a, .int .i64 s, .bool dead, .int .i64 x, .int .i64 y, .string text, .bool held] 28)).alloc (.cells #[.int .i64 0, .string ⟨#[]⟩, .int .i64 0, .int .i64 0, .bool false, .complex .f64 0 0, .string ⟨#[]⟩, .bool false] 46)).heap.size := by simp <;> omega
  have hz1 : w.heap.size + 1 < ((w.alloc (.cells #[.int .i64 key, .string d, .int .i64 a, .int .i64 s, .bool dead, .int .i64 x, .int .i64 y, .string text, .bool held] 28)).alloc (.cells #[.int .i64 0, .string ⟨#[]⟩, .int .i64 0, .int .i64 0, .bool false, .complex .f64 0 0, .string ⟨#[]⟩, .bool false] 46)).heap.size := by simp
  have HB : Hid (Below w.heap.size w ((w.alloc (.cells #[.int .i64 key, .string d, .int .i64 a, .int .i64 s, .bool dead, .int .i64 x, .int .i64 y, .string text, .bool held] 28)).alloc (.cells #[.int .i64 0, .string ⟨#[]⟩, .int .i64 0, .int .i64 0, .bool false, .complex .f64 0 0, .string ⟨#[]⟩, .bool false] 46))) := ((Below.refl _ _).alloc (Nat.le_refl _) _).alloc (by simp) _
  generalize ((w.alloc (.cells #[.int .i64 key, .string d, .int .i64 a, .int .i64 s, .bool dead, .int .i64 x, .int .i64 y, .string text, .bool held] 28)).alloc (.cells #[.int .i64 0, .string ⟨#[]⟩, .int .i64 0, .int .i64 0, .bool false, .complex .f64 0 0, .string ⟨#[]⟩, .bool false] 46)) = W at *
  refine wp_region_held_drew (S := fun w' => w'.cell? ⟨w.heap.size, 0, none⟩ = some (.int .i64 key) ∧ w'.cell? ⟨w.heap.size, 1, none⟩ = some (.string d) ∧ w'.cell? ⟨w.heap.size, 2, none⟩ = some (.int .i64 a) ∧ w'.cell? ⟨w.heap.size, 3, none⟩ = some (.int .i64 s) ∧ w'.cell? ⟨w.heap.size, 4, none⟩ = some (.bool dead) ∧ w'.cell? ⟨w.heap.size, 5, none⟩ = some (.int .i64 x) ∧ w'.cell? ⟨w.heap.size, 6, none⟩ = some (.int .i64 y) ∧ w'.cell? ⟨w.heap.size, 7, none⟩ = some (.string text) ∧ w'.cell? ⟨w.heap.size, 8, none⟩ = some (.bool held)) (by kernel_rfl) ⟨k0, k1, k2, k3, k4, k5, k6, k7, k8⟩ (fun hHeld => ?_)
  refine wpAnyH_take (i := 0) (oi := { dst := some 3, op := Go.Op.fieldAddr 28 (Go.Operand.tmp 1) 0, type := 0, pos := "law.go:21", after := #[], guard := none }) (v := ?_) rfl (by kernel_rfl) (by kernel_rfl) (by kernel_rfl) (fun _ _ _ h => h) (Or.inl ⟨rfl, ?_⟩) (by assumption) ?_
  rotate_left
  · intro wz hSw; (try dsimp only at hSw); go_simp; try (with_reducible rfl)
  try simp only [Act.put, List.setIfInBounds_toArray, List.set_cons_zero, List.set_cons_succ]
  refine wpAnyH_take (i := 1) (oi := { dst := some 4, op := Go.Op.load 3 (Go.Operand.tmp 3), type := 3, pos := "law.go:21", after := #[{ on := 0, ground := Go.Ground.data }], guard := none }) (v := ?_) rfl (by kernel_rfl) (by kernel_rfl) (by kernel_rfl) (fun _ _ _ h => h) (Or.inl ⟨rfl, ?_⟩) (by assumption) ?_
  rotate_left
  · intro wz hSw; (try dsimp only at hSw); go_simp; try (with_reducible rfl)
  try simp only [Act.put, List.setIfInBounds_toArray, List.set_cons_zero, List.set_cons_succ]
  refine wpAnyH_take (i := 2) (oi := { dst := some 5, op := Go.Op.fieldAddr 28 (Go.Operand.tmp 1) 1, type := 0, pos := "law.go:21", after := #[], guard := none }) (v := ?_) rfl (by kernel_rfl) (by kernel_rfl) (by kernel_rfl) (fun _ _ _ h => h) (Or.inl ⟨rfl, ?_⟩) (by assumption) ?_
  rotate_left
  · intro wz hSw; (try dsimp only at hSw); go_simp; try (with_reducible rfl)
  try simp only [Act.put, List.setIfInBounds_toArray, List.set_cons_zero, List.set_cons_succ]
  refine wpAnyH_take (i := 3) (oi := { dst := some 6, op := Go.Op.load 26 (Go.Operand.tmp 5), type := 26, pos := "law.go:21", after := #[{ on := 2, ground := Go.Ground.data }], guard := none }) (v := ?_) rfl (by kernel_rfl) (by kernel_rfl) (by kernel_rfl) (fun _ _ _ h => h) (Or.inl ⟨rfl, ?_⟩) (by assumption) ?_
  rotate_left
  · intro wz hSw; (try dsimp only at hSw); go_simp; try (with_reducible rfl)
  try simp only [Act.put, List.setIfInBounds_toArray, List.set_cons_zero, List.set_cons_succ]
  refine wpAnyH_take (i := 5) (oi := { dst := some 8, op := Go.Op.fieldAddr 28 (Go.Operand.tmp 1) 2, type := 0, pos := "law.go:21", after := #[], guard := none }) (v := ?_) rfl (by kernel_rfl) (by kernel_rfl) (by kernel_rfl) (fun _ _ _ h => h) (Or.inl ⟨rfl, ?_⟩) (by assumption) ?_
  rotate_left
  · intro wz hSw; (try dsimp only at hSw); go_simp; try (with_reducible rfl)
  try simp only [Act.put, List.setIfInBounds_toArray, List.set_cons_zero, List.set_cons_succ]
  refine wpAnyH_take (i := 6) (oi := { dst := some 9, op := Go.Op.load 4 (Go.Operand.tmp 8), type := 4, pos := "law.go:21", after := #[{ on := 5, ground := Go.Ground.data }], guard := none }) (v := ?_) rfl (by kernel_rfl) (by kernel_rfl) (by kernel_rfl) (fun _ _ _ h => h) (Or.inl ⟨rfl, ?_⟩) (by assumption) ?_
  rotate_left
  · intro wz hSw; (try dsimp only at hSw); go_simp; try (with_reducible rfl)
  try simp only [Act.put, List.setIfInBounds_toArray, List.set_cons_zero, List.set_cons_succ]
  refine wpAnyH_take (i := 7) (oi := { dst := some 10, op := Go.Op.fieldAddr 28 (Go.Operand.tmp 1) 3, type := 0, pos := "law.go:21", after := #[], guard := none }) (v := ?_) rfl (by kernel_rfl) (by kernel_rfl) (by kernel_rfl) (fun _ _ _ h => h) (Or.inl ⟨rfl, ?_⟩) (by assumption) ?_
  rotate_left
  · intro wz hSw; (try dsimp only at hSw); go_simp; try (with_reducible rfl)
  try simp only [Act.put, List.setIfInBounds_toArray, List.set_cons_zero, List.set_cons_succ]
  refine wpAnyH_take (i := 8) (oi := { dst := some 11, op := Go.Op.load 24 (Go.Operand.tmp 10), type := 24, pos := "law.go:21", after := #[{ on := 7, ground := Go.Ground.data }], guard := none }) (v := ?_) rfl (by kernel_rfl) (by kernel_rfl) (by kernel_rfl) (fun _ _ _ h => h) (Or.inl ⟨rfl, ?_⟩) (by assumption) ?_
  rotate_left
  · intro wz hSw; (try dsimp only at hSw); go_simp; try (with_reducible rfl)
  try simp only [Act.put, List.setIfInBounds_toArray, List.set_cons_zero, List.set_cons_succ]
  refine wpAnyH_take (i := 10) (oi := { dst := some 13, op := Go.Op.fieldAddr 28 (Go.Operand.tmp 1) 4, type := 0, pos := "law.go:21", after := #[], guard := none }) (v := ?_) rfl (by kernel_rfl) (by kernel_rfl) (by kernel_rfl) (fun _ _ _ h => h) (Or.inl ⟨rfl, ?_⟩) (by assumption) ?_
  rotate_left
  · intro wz hSw; (try dsimp only at hSw); go_simp; try (with_reducible rfl)
  try simp only [Act.put, List.setIfInBounds_toArray, List.set_cons_zero, List.set_cons_succ]
  refine wpAnyH_take (i := 11) (oi := { dst := some 14, op := Go.Op.load 9 (Go.Operand.tmp 13), type := 9, pos := "law.go:21", after := #[{ on := 10, ground := Go.Ground.data }], guard := none }) (v := ?_) rfl (by kernel_rfl) (by kernel_rfl) (by kernel_rfl) (fun _ _ _ h => h) (Or.inl ⟨rfl, ?_⟩) (by assumption) ?_
  rotate_left
  · intro wz hSw; (try dsimp only at hSw); go_simp; try (with_reducible rfl)
  try simp only [Act.put, List.setIfInBounds_toArray, List.set_cons_zero, List.set_cons_succ]
  refine wpAnyH_take (i := 12) (oi := { dst := some 15, op := Go.Op.fieldAddr 28 (Go.Operand.tmp 1) 5, type := 0, pos := "law.go:21", after := #[], guard := none }) (v := ?_) rfl (by kernel_rfl) (by kernel_rfl) (by kernel_rfl) (fun _ _ _ h => h) (Or.inl ⟨rfl, ?_⟩) (by assumption) ?_
  rotate_left
  · intro wz hSw; (try dsimp only at hSw); go_simp; try (with_reducible rfl)
  try simp only [Act.put, List.setIfInBounds_toArray, List.set_cons_zero, List.set_cons_succ]
  refine wpAnyH_take (i := 13) (oi := { dst := some 16, op := Go.Op.load 4 (Go.Operand.tmp 15), type := 4, pos := "law.go:21", after := #[{ on := 12, ground := Go.Ground.data }], guard := none }) (v := ?_) rfl (by kernel_rfl) (by kernel_rfl) (by kernel_rfl) (fun _ _ _ h => h) (Or.inl ⟨rfl, ?_⟩) (by assumption) ?_
  rotate_left
  · intro wz hSw; (try dsimp only at hSw); go_simp; try (with_reducible rfl)
  try simp only [Act.put, List.setIfInBounds_toArray, List.set_cons_zero, List.set_cons_succ]
  refine wpAnyH_ready (rs := [4]) (by kernel_rfl) (by simp) ?_
  refine AllReadyH.cons (o := { dst := some 7, op := Go.Op.call { callee := Go.Callee.value (Go.Operand.func 42), args := #[Go.Operand.tmp 6], argTypes := #[26] }, type := 43, pos := "law.go:21", after := #[{ on := 3, ground := Go.Ground.data }], guard := none }) rfl (fun K hK => ?_) AllReadyH.nil
  go_simp
  go_at_call 42
  refine (HV.out _).mono ?_
  rintro e w1 ⟨rfl, hb⟩
  replace k0 := (hb.cell (p := ⟨w.heap.size, 0, none⟩) hz0).trans k0
  replace k1 := (hb.cell (p := ⟨w.heap.size, 1, none⟩) hz0).trans k1
  replace k2 := (hb.cell (p := ⟨w.heap.size, 2, none⟩) hz0).trans k2
  replace k3 := (hb.cell (p := ⟨w.heap.size, 3, none⟩) hz0).trans k3
  replace k4 := (hb.cell (p := ⟨w.heap.size, 4, none⟩) hz0).trans k4
  replace k5 := (hb.cell (p := ⟨w.heap.size, 5, none⟩) hz0).trans k5
  replace k6 := (hb.cell (p := ⟨w.heap.size, 6, none⟩) hz0).trans k6
  replace k7 := (hb.cell (p := ⟨w.heap.size, 7, none⟩) hz0).trans k7
  replace k8 := (hb.cell (p := ⟨w.heap.size, 8, none⟩) hz0).trans k8
  replace z0 := (hb.cell (p := ⟨w.heap.size + 1, 0, none⟩) hz1).trans z0
  replace y0 := (hb.frozen (p := ⟨w.heap.size + 1, 0, none⟩) hz1).trans y0
  replace z1 := (hb.cell (p := ⟨w.heap.size + 1, 1, none⟩) hz1).trans z1
  replace y1 := (hb.frozen (p := ⟨w.heap.size + 1, 1, none⟩) hz1).trans y1
  replace z2 := (hb.cell (p := ⟨w.heap.size + 1, 2, none⟩) hz1).trans z2
  replace y2 := (hb.frozen (p := ⟨w.heap.size + 1, 2, none⟩) hz1).trans y2
  replace z3 := (hb.cell (p := ⟨w.heap.size + 1, 3, none⟩) hz1).trans z3
  replace y3 := (hb.frozen (p := ⟨w.heap.size + 1, 3, none⟩) hz1).trans y3
  replace z4 := (hb.cell (p := ⟨w.heap.size + 1, 4, none⟩) hz1).trans z4
  replace y4 := (hb.frozen (p := ⟨w.heap.size + 1, 4, none⟩) hz1).trans y4
  replace z5 := (hb.cell (p := ⟨w.heap.size + 1, 5, none⟩) hz1).trans z5
  replace y5 := (hb.frozen (p := ⟨w.heap.size + 1, 5, none⟩) hz1).trans y5
  replace z6 := (hb.cell (p := ⟨w.heap.size + 1, 6, none⟩) hz1).trans z6
  replace y6 := (hb.frozen (p := ⟨w.heap.size + 1, 6, none⟩) hz1).trans y6
  replace z7 := (hb.cell (p := ⟨w.heap.size + 1, 7, none⟩) hz1).trans z7
  replace y7 := (hb.frozen (p := ⟨w.heap.size + 1, 7, none⟩) hz1).trans y7
  replace hz0 := Nat.lt_of_lt_of_le hz0 hb.size
  replace hz1 := Nat.lt_of_lt_of_le hz1 hb.size
  replace HB := Lib.hid (below_via HB.out hb HB.out.size ⟨rfl, rfl, rfl, rfl⟩)
  clear hb
  refine hK.out _ _ ⟨k0, k1, k2, k3, k4, k5, k6, k7, k8⟩ (fun hHeld => ?_)
  clear hK K
  try simp only [Act.put, List.setIfInBounds_toArray, List.set_cons_zero, List.set_cons_succ]
  refine wpAnyH_ready (rs := [9]) (by kernel_rfl) (by simp) ?_
  refine AllReadyH.cons (o := { dst := some 12, op := Go.Op.call { callee := Go.Callee.value (Go.Operand.func 43), args := #[Go.Operand.tmp 11], argTypes := #[24] }, type := 44, pos := "law.go:21", after := #[{ on := 8, ground := Go.Ground.data }, { on := 4, ground := Go.Ground.chain }], guard := none }) rfl (fun K hK => ?_) AllReadyH.nil
  go_simp
  go_at_call 43
  refine (HS.out _).mono ?_
  rintro e w1 ⟨rfl, hb⟩
  replace k0 := (hb.cell (p := ⟨w.heap.size, 0, none⟩) hz0).trans k0
  replace k1 := (hb.cell (p := ⟨w.heap.size, 1, none⟩) hz0).trans k1
  replace k2 := (hb.cell (p := ⟨w.heap.size, 2, none⟩) hz0).trans k2
  replace k3 := (hb.cell (p := ⟨w.heap.size, 3, none⟩) hz0).trans k3
  replace k4 := (hb.cell (p := ⟨w.heap.size, 4, none⟩) hz0).trans k4
  replace k5 := (hb.cell (p := ⟨w.heap.size, 5, none⟩) hz0).trans k5
  replace k6 := (hb.cell (p := ⟨w.heap.size, 6, none⟩) hz0).trans k6
  replace k7 := (hb.cell (p := ⟨w.heap.size, 7, none⟩) hz0).trans k7
  replace k8 := (hb.cell (p := ⟨w.heap.size, 8, none⟩) hz0).trans k8
  replace z0 := (hb.cell (p := ⟨w.heap.size + 1, 0, none⟩) hz1).trans z0
  replace y0 := (hb.frozen (p := ⟨w.heap.size + 1, 0, none⟩) hz1).trans y0
  replace z1 := (hb.cell (p := ⟨w.heap.size + 1, 1, none⟩) hz1).trans z1
  replace y1 := (hb.frozen (p := ⟨w.heap.size + 1, 1, none⟩) hz1).trans y1
  replace z2 := (hb.cell (p := ⟨w.heap.size + 1, 2, none⟩) hz1).trans z2
  replace y2 := (hb.frozen (p := ⟨w.heap.size + 1, 2, none⟩) hz1).trans y2
  replace z3 := (hb.cell (p := ⟨w.heap.size + 1, 3, none⟩) hz1).trans z3
  replace y3 := (hb.frozen (p := ⟨w.heap.size + 1, 3, none⟩) hz1).trans y3
  replace z4 := (hb.cell (p := ⟨w.heap.size + 1, 4, none⟩) hz1).trans z4
  replace y4 := (hb.frozen (p := ⟨w.heap.size + 1, 4, none⟩) hz1).trans y4
  replace z5 := (hb.cell (p := ⟨w.heap.size + 1, 5, none⟩) hz1).trans z5
  replace y5 := (hb.frozen (p := ⟨w.heap.size + 1, 5, none⟩) hz1).trans y5
  replace z6 := (hb.cell (p := ⟨w.heap.size + 1, 6, none⟩) hz1).trans z6
  replace y6 := (hb.frozen (p := ⟨w.heap.size + 1, 6, none⟩) hz1).trans y6
  replace z7 := (hb.cell (p := ⟨w.heap.size + 1, 7, none⟩) hz1).trans z7
  replace y7 := (hb.frozen (p := ⟨w.heap.size + 1, 7, none⟩) hz1).trans y7
  replace hz0 := Nat.lt_of_lt_of_le hz0 hb.size
  replace hz1 := Nat.lt_of_lt_of_le hz1 hb.size
  replace HB := Lib.hid (below_via HB.out hb HB.out.size ⟨rfl, rfl, rfl, rfl⟩)
  clear hb
  refine hK.out _ _ ⟨k0, k1, k2, k3, k4, k5, k6, k7, k8⟩ (fun hHeld => ?_)
  clear hK K
  try simp only [Act.put, List.setIfInBounds_toArray, List.set_cons_zero, List.set_cons_succ]
  refine wpAnyH_take (i := 14) (oi := { dst := some 17, op := Go.Op.build 46 #[(0, Go.Operand.tmp 4), (1, Go.Operand.tmp 7), (2, Go.Operand.tmp 9), (3, Go.Operand.tmp 12), (4, Go.Operand.tmp 14), (5, Go.Operand.tmp 16)], type := 46, pos := "law.go:21", after := #[{ on := 1, ground := Go.Ground.data }, { on := 4, ground := Go.Ground.data }, { on := 6, ground := Go.Ground.data }, { on := 9, ground := Go.Ground.data }, { on := 11, ground := Go.Ground.data }, { on := 13, ground := Go.Ground.data }], guard := none }) (v := ?_) rfl (by kernel_rfl) (by kernel_rfl) (by kernel_rfl) (fun _ _ _ h => h) (Or.inl ⟨rfl, ?_⟩) (by assumption) ?_
  rotate_left
  · intro wz hSw; (try dsimp only at hSw); go_simp; try (with_reducible rfl)
  try simp only [Act.put, List.setIfInBounds_toArray, List.set_cons_zero, List.set_cons_succ]
  refine wpAnyH_ready (rs := [15]) (by kernel_rfl) (by simp) ?_
  refine AllReadyH.cons (o := { dst := none, op := Go.Op.store 46 (Go.Operand.tmp 2) (Go.Operand.tmp 17), type := 0, pos := "law.go:21", after := #[{ on := 14, ground := Go.Ground.data }, { on := 9, ground := Go.Ground.chain }, { on := 0, ground := Go.Ground.phase }, { on := 1, ground := Go.Ground.phase }, { on := 2, ground := Go.Ground.phase }, { on := 3, ground := Go.Ground.phase }, { on := 4, ground := Go.Ground.phase }, { on := 5, ground := Go.Ground.phase }, { on := 6, ground := Go.Ground.phase }, { on := 7, ground := Go.Ground.phase }, { on := 8, ground := Go.Ground.phase }, { on := 9, ground := Go.Ground.phase }, { on := 10, ground := Go.Ground.phase }, { on := 11, ground := Go.Ground.phase }, { on := 12, ground := Go.Ground.phase }, { on := 13, ground := Go.Ground.phase }, { on := 14, ground := Go.Ground.phase }], guard := none }) rfl (fun K hK => ?_) AllReadyH.nil
  go_simp
  replace k0 : ((((((((w1.setCell ⟨w.heap.size + 1, 0, none⟩ (.int .i64 key)).setCell ⟨w.heap.size + 1, 1, none⟩ (.string d)).setCell ⟨w.heap.size + 1, 2, none⟩ (.int .i64 a)).setCell ⟨w.heap.size + 1, 3, none⟩ (.int .i64 s)).setCell ⟨w.heap.size + 1, 4, none⟩ (.bool dead)).setCell ⟨w.heap.size + 1, 5, none⟩ (.complex .f64 fx fy)).setCell ⟨w.heap.size + 1, 6, none⟩ (.string text)).setCell ⟨w.heap.size + 1, 7, none⟩ (.bool held)).cell? ⟨w.heap.size, 0, none⟩ = some (.int .i64 key) := by simp [go_sem, k0]
  replace k1 : ((((((((w1.setCell ⟨w.heap.size + 1, 0, none⟩ (.int .i64 key)).setCell ⟨w.heap.size + 1, 1, none⟩ (.string d)).setCell ⟨w.heap.size + 1, 2, none⟩ (.int .i64 a)).setCell ⟨w.heap.size + 1, 3, none⟩ (.int .i64 s)).setCell ⟨w.heap.size + 1, 4, none⟩ (.bool dead)).setCell ⟨w.heap.size + 1, 5, none⟩ (.complex .f64 fx fy)).setCell ⟨w.heap.size + 1, 6, none⟩ (.string text)).setCell ⟨w.heap.size + 1, 7, none⟩ (.bool held)).cell? ⟨w.heap.size, 1, none⟩ = some (.string d) := by simp [go_sem, k1]
  replace k2 : ((((((((w1.setCell ⟨w.heap.size + 1, 0, none⟩ (.int .i64 key)).setCell ⟨w.heap.size + 1, 1, none⟩ (.string d)).setCell ⟨w.heap.size + 1, 2, none⟩ (.int .i64 a)).setCell ⟨w.heap.size + 1, 3, none⟩ (.int .i64 s)).setCell ⟨w.heap.size + 1, 4, none⟩ (.bool dead)).setCell ⟨w.heap.size + 1, 5, none⟩ (.complex .f64 fx fy)).setCell ⟨w.heap.size + 1, 6, none⟩ (.string text)).setCell ⟨w.heap.size + 1, 7, none⟩ (.bool held)).cell? ⟨w.heap.size, 2, none⟩ = some (.int .i64 a) := by simp [go_sem, k2]
  replace k3 : ((((((((w1.setCell ⟨w.heap.size + 1, 0, none⟩ (.int .i64 key)).setCell ⟨w.heap.size + 1, 1, none⟩ (.string d)).setCell ⟨w.heap.size + 1, 2, none⟩ (.int .i64 a)).setCell ⟨w.heap.size + 1, 3, none⟩ (.int .i64 s)).setCell ⟨w.heap.size + 1, 4, none⟩ (.bool dead)).setCell ⟨w.heap.size + 1, 5, none⟩ (.complex .f64 fx fy)).setCell ⟨w.heap.size + 1, 6, none⟩ (.string text)).setCell ⟨w.heap.size + 1, 7, none⟩ (.bool held)).cell? ⟨w.heap.size, 3, none⟩ = some (.int .i64 s) := by simp [go_sem, k3]
  replace k4 : ((((((((w1.setCell ⟨w.heap.size + 1, 0, none⟩ (.int .i64 key)).setCell ⟨w.heap.size + 1, 1, none⟩ (.string d)).setCell ⟨w.heap.size + 1, 2, none⟩ (.int .i64 a)).setCell ⟨w.heap.size + 1, 3, none⟩ (.int .i64 s)).setCell ⟨w.heap.size + 1, 4, none⟩ (.bool dead)).setCell ⟨w.heap.size + 1, 5, none⟩ (.complex .f64 fx fy)).setCell ⟨w.heap.size + 1, 6, none⟩ (.string text)).setCell ⟨w.heap.size + 1, 7, none⟩ (.bool held)).cell? ⟨w.heap.size, 4, none⟩ = some (.bool dead) := by simp [go_sem, k4]
  replace k5 : ((((((((w1.setCell ⟨w.heap.size + 1, 0, none⟩ (.int .i64 key)).setCell ⟨w.heap.size + 1, 1, none⟩ (.string d)).setCell ⟨w.heap.size + 1, 2, none⟩ (.int .i64 a)).setCell ⟨w.heap.size + 1, 3, none⟩ (.int .i64 s)).setCell ⟨w.heap.size + 1, 4, none⟩ (.bool dead)).setCell ⟨w.heap.size + 1, 5, none⟩ (.complex .f64 fx fy)).setCell ⟨w.heap.size + 1, 6, none⟩ (.string text)).setCell ⟨w.heap.size + 1, 7, none⟩ (.bool held)).cell? ⟨w.heap.size, 5, none⟩ = some (.int .i64 x) := by simp [go_sem, k5]
  replace k6 : ((((((((w1.setCell ⟨w.heap.size + 1, 0, none⟩ (.int .i64 key)).setCell ⟨w.heap.size + 1, 1, none⟩ (.string d)).setCell ⟨w.heap.size + 1, 2, none⟩ (.int .i64 a)).setCell ⟨w.heap.size + 1, 3, none⟩ (.int .i64 s)).setCell ⟨w.heap.size + 1, 4, none⟩ (.bool dead)).setCell ⟨w.heap.size + 1, 5, none⟩ (.complex .f64 fx fy)).setCell ⟨w.heap.size + 1, 6, none⟩ (.string text)).setCell ⟨w.heap.size + 1, 7, none⟩ (.bool held)).cell? ⟨w.heap.size, 6, none⟩ = some (.int .i64 y) := by simp [go_sem, k6]
  replace k7 : ((((((((w1.setCell ⟨w.heap.size + 1, 0, none⟩ (.int .i64 key)).setCell ⟨w.heap.size + 1, 1, none⟩ (.string d)).setCell ⟨w.heap.size + 1, 2, none⟩ (.int .i64 a)).setCell ⟨w.heap.size + 1, 3, none⟩ (.int .i64 s)).setCell ⟨w.heap.size + 1, 4, none⟩ (.bool dead)).setCell ⟨w.heap.size + 1, 5, none⟩ (.complex .f64 fx fy)).setCell ⟨w.heap.size + 1, 6, none⟩ (.string text)).setCell ⟨w.heap.size + 1, 7, none⟩ (.bool held)).cell? ⟨w.heap.size, 7, none⟩ = some (.string text) := by simp [go_sem, k7]
  replace k8 : ((((((((w1.setCell ⟨w.heap.size + 1, 0, none⟩ (.int .i64 key)).setCell ⟨w.heap.size + 1, 1, none⟩ (.string d)).setCell ⟨w.heap.size + 1, 2, none⟩ (.int .i64 a)).setCell ⟨w.heap.size + 1, 3, none⟩ (.int .i64 s)).setCell ⟨w.heap.size + 1, 4, none⟩ (.bool dead)).setCell ⟨w.heap.size + 1, 5, none⟩ (.complex .f64 fx fy)).setCell ⟨w.heap.size + 1, 6, none⟩ (.string text)).setCell ⟨w.heap.size + 1, 7, none⟩ (.bool held)).cell? ⟨w.heap.size, 8, none⟩ = some (.bool held) := by simp [go_sem, k8]
  have HB8 : Hid (Below w.heap.size w ((((((((w1.setCell ⟨w.heap.size + 1, 0, none⟩ (.int .i64 key)).setCell ⟨w.heap.size + 1, 1, none⟩ (.string d)).setCell ⟨w.heap.size + 1, 2, none⟩ (.int .i64 a)).setCell ⟨w.heap.size + 1, 3, none⟩ (.int .i64 s)).setCell ⟨w.heap.size + 1, 4, none⟩ (.bool dead)).setCell ⟨w.heap.size + 1, 5, none⟩ (.complex .f64 fx fy)).setCell ⟨w.heap.size + 1, 6, none⟩ (.string text)).setCell ⟨w.heap.size + 1, 7, none⟩ (.bool held))) := ((((((((HB.out.setCell (by simp) _).setCell (by simp) _).setCell (by simp) _).setCell (by simp) _).setCell (by simp) _).setCell (by simp) _).setCell (by simp) _).setCell (by simp) _)
  have u0 : ((((((((w1.setCell ⟨w.heap.size + 1, 0, none⟩ (.int .i64 key)).setCell ⟨w.heap.size + 1, 1, none⟩ (.string d)).setCell ⟨w.heap.size + 1, 2, none⟩ (.int .i64 a)).setCell ⟨w.heap.size + 1, 3, none⟩ (.int .i64 s)).setCell ⟨w.heap.size + 1, 4, none⟩ (.bool dead)).setCell ⟨w.heap.size + 1, 5, none⟩ (.complex .f64 fx fy)).setCell ⟨w.heap.size + 1, 6, none⟩ (.string text)).setCell ⟨w.heap.size + 1, 7, none⟩ (.bool held)).cell? ⟨w.heap.size + 1, 0, none⟩ = some (.int .i64 key) := by simp [go_sem, z0]
  have u1 : ((((((((w1.setCell ⟨w.heap.size + 1, 0, none⟩ (.int .i64 key)).setCell ⟨w.heap.size + 1, 1, none⟩ (.string d)).setCell ⟨w.heap.size + 1, 2, none⟩ (.int .i64 a)).setCell ⟨w.heap.size + 1, 3, none⟩ (.int .i64 s)).setCell ⟨w.heap.size + 1, 4, none⟩ (.bool dead)).setCell ⟨w.heap.size + 1, 5, none⟩ (.complex .f64 fx fy)).setCell ⟨w.heap.size + 1, 6, none⟩ (.string text)).setCell ⟨w.heap.size + 1, 7, none⟩ (.bool held)).cell? ⟨w.heap.size + 1, 1, none⟩ = some (.string d) := by simp [go_sem, z1]
  have u2 : ((((((((w1.setCell ⟨w.heap.size + 1, 0, none⟩ (.int .i64 key)).setCell ⟨w.heap.size + 1, 1, none⟩ (.string d)).setCell ⟨w.heap.size + 1, 2, none⟩ (.int .i64 a)).setCell ⟨w.heap.size + 1, 3, none⟩ (.int .i64 s)).setCell ⟨w.heap.size + 1, 4, none⟩ (.bool dead)).setCell ⟨w.heap.size + 1, 5, none⟩ (.complex .f64 fx fy)).setCell ⟨w.heap.size + 1, 6, none⟩ (.string text)).setCell ⟨w.heap.size + 1, 7, none⟩ (.bool held)).cell? ⟨w.heap.size + 1, 2, none⟩ = some (.int .i64 a) := by simp [go_sem, z2]
  have u3 : ((((((((w1.setCell ⟨w.heap.size + 1, 0, none⟩ (.int .i64 key)).setCell ⟨w.heap.size + 1, 1, none⟩ (.string d)).setCell ⟨w.heap.size + 1, 2, none⟩ (.int .i64 a)).setCell ⟨w.heap.size + 1, 3, none⟩ (.int .i64 s)).setCell ⟨w.heap.size + 1, 4, none⟩ (.bool dead)).setCell ⟨w.heap.size + 1, 5, none⟩ (.complex .f64 fx fy)).setCell ⟨w.heap.size + 1, 6, none⟩ (.string text)).setCell ⟨w.heap.size + 1, 7, none⟩ (.bool held)).cell? ⟨w.heap.size + 1, 3, none⟩ = some (.int .i64 s) := by simp [go_sem, z3]
  have u4 : ((((((((w1.setCell ⟨w.heap.size + 1, 0, none⟩ (.int .i64 key)).setCell ⟨w.heap.size + 1, 1, none⟩ (.string d)).setCell ⟨w.heap.size + 1, 2, none⟩ (.int .i64 a)).setCell ⟨w.heap.size + 1, 3, none⟩ (.int .i64 s)).setCell ⟨w.heap.size + 1, 4, none⟩ (.bool dead)).setCell ⟨w.heap.size + 1, 5, none⟩ (.complex .f64 fx fy)).setCell ⟨w.heap.size + 1, 6, none⟩ (.string text)).setCell ⟨w.heap.size + 1, 7, none⟩ (.bool held)).cell? ⟨w.heap.size + 1, 4, none⟩ = some (.bool dead) := by simp [go_sem, z4]
  have u5 : ((((((((w1.setCell ⟨w.heap.size + 1, 0, none⟩ (.int .i64 key)).setCell ⟨w.heap.size + 1, 1, none⟩ (.string d)).setCell ⟨w.heap.size + 1, 2, none⟩ (.int .i64 a)).setCell ⟨w.heap.size + 1, 3, none⟩ (.int .i64 s)).setCell ⟨w.heap.size + 1, 4, none⟩ (.bool dead)).setCell ⟨w.heap.size + 1, 5, none⟩ (.complex .f64 fx fy)).setCell ⟨w.heap.size + 1, 6, none⟩ (.string text)).setCell ⟨w.heap.size + 1, 7, none⟩ (.bool held)).cell? ⟨w.heap.size + 1, 5, none⟩ = some (.complex .f64 fx fy) := by simp [go_sem, z5]
  have u6 : ((((((((w1.setCell ⟨w.heap.size + 1, 0, none⟩ (.int .i64 key)).setCell ⟨w.heap.size + 1, 1, none⟩ (.string d)).setCell ⟨w.heap.size + 1, 2, none⟩ (.int .i64 a)).setCell ⟨w.heap.size + 1, 3, none⟩ (.int .i64 s)).setCell ⟨w.heap.size + 1, 4, none⟩ (.bool dead)).setCell ⟨w.heap.size + 1, 5, none⟩ (.complex .f64 fx fy)).setCell ⟨w.heap.size + 1, 6, none⟩ (.string text)).setCell ⟨w.heap.size + 1, 7, none⟩ (.bool held)).cell? ⟨w.heap.size + 1, 6, none⟩ = some (.string text) := by simp [go_sem, z6]
  have u7 : ((((((((w1.setCell ⟨w.heap.size + 1, 0, none⟩ (.int .i64 key)).setCell ⟨w.heap.size + 1, 1, none⟩ (.string d)).setCell ⟨w.heap.size + 1, 2, none⟩ (.int .i64 a)).setCell ⟨w.heap.size + 1, 3, none⟩ (.int .i64 s)).setCell ⟨w.heap.size + 1, 4, none⟩ (.bool dead)).setCell ⟨w.heap.size + 1, 5, none⟩ (.complex .f64 fx fy)).setCell ⟨w.heap.size + 1, 6, none⟩ (.string text)).setCell ⟨w.heap.size + 1, 7, none⟩ (.bool held)).cell? ⟨w.heap.size + 1, 7, none⟩ = some (.bool held) := by simp [go_sem, z7]
  clear z0 y0 z1 y1 z2 y2 z3 y3 z4 y4 z5 y5 z6 y6 z7 y7
  clear HB hz0 hz1
  generalize ((((((((w1.setCell ⟨w.heap.size + 1, 0, none⟩ (.int .i64 key)).setCell ⟨w.heap.size + 1, 1, none⟩ (.string d)).setCell ⟨w.heap.size + 1, 2, none⟩ (.int .i64 a)).setCell ⟨w.heap.size + 1, 3, none⟩ (.int .i64 s)).setCell ⟨w.heap.size + 1, 4, none⟩ (.bool dead)).setCell ⟨w.heap.size + 1, 5, none⟩ (.complex .f64 fx fy)).setCell ⟨w.heap.size + 1, 6, none⟩ (.string text)).setCell ⟨w.heap.size + 1, 7, none⟩ (.bool held)) = W9 at *
  refine hK.out _ _ ⟨k0, k1, k2, k3, k4, k5, k6, k7, k8⟩ (fun hHeld => ?_)
  clear hK K
  try simp only [Act.put, List.setIfInBounds_toArray, List.set_cons_zero, List.set_cons_succ]
  refine wpAnyH_done (by kernel_rfl) ?_ _
  go_wp2
  refine bodyPost_ret (v := .agg #[.int .i64 key, .string d, .int .i64 a, .int .i64 s, .bool dead, .complex .f64 fx fy, .string text, .bool held]) ?_ rfl ?_
  · simp [results, Try.results17, go_sem, u0, u1, u2, u3, u4, u5, u6, u7]
  · exact ⟨rfl, HB8.out⟩

end Go.Proofs.Ytpaiigminmakgaa

/- A region that draws its order and ends in one operation that waits for all others: what the others read need hold only ahead of that one. -/
namespace Go.Proofs.Ytpaiigminmakgaa

section
variable {P : Program} {ops : Array Oper} {Q : Exit → Act → World → Prop} {S : World → Prop} {n : Nat}

/-- Whatever order is picked from here on; S holds behind each operation ahead of the last one. -/
def wpAnyT (P : Program) (ops : Array Oper) (Q : Exit → Act → World → Prop) (S : World → Prop) (n : Nat) : Nat → Array Bool → Act → World → Prop
  | 0, listed, a, w => Region.ready .any ops listed = [] ∧ Q .normal a w
  | fuel + 1, listed, a, w =>
    (Region.ready .any ops listed = [] → Q .normal a w) ∧
    ∀ i ∈ Region.ready .any ops listed, wpOp P ops Q i (fun a' w' => (i < n → S w') ∧ wpAnyT P ops Q S n fuel (listed.setIfInBounds i true) a' w') a w

theorem wpAny_of_T : ∀ (fuel : Nat) (listed : Array Bool) (a : Act) (w : World), wpAnyT P ops Q S n fuel listed a w → wpAny P .any ops Q fuel listed a w
  | 0, _, _, _, h => h
  | fuel + 1, _, _, _, h => ⟨h.1, fun i hi => wpOp_mono (fun a' w' h' => wpAny_of_T fuel _ a' w' h'.2) (h.2 i hi)⟩

theorem wpAnyT_first {i : Nat} {oi : Oper} {v : Value} (hi : ops[i]? = some oi) (hsel : ∀ (j : Nat) (o : Oper) cs b, ops[j]? = some o → o.op ≠ .select cs b)
    (hQ : ∀ c a w, Q (.panic c) (a.put oi.dst v) w → Q (.panic c) a w)
    (hs : Region.sinkB .any ops n = true) (hc : Region.chainB .any ops n = true) (hn : n < ops.size) (hin : i < n) :
    ∀ (fuel : Nat) (listed : Array Bool) (a : Act) (w : World), HeadInv .any ops n listed →
      (∀ j oj, ops[j]? = some oj → j ≠ i → listed.getD j true = false → (∀ e ∈ oj.after, Region.binds .any e = true → e.on ≠ i) → oi.apart ops oj = true) →
      i ∈ Region.ready .any ops listed → YieldsIf P ops S oi v a → S w →
      wpAnyT P ops Q S n fuel (listed.setIfInBounds i true) (a.put oi.dst v) w → wpAnyT P ops Q S n (fuel + 1) listed a w := by
  intro fuel
  induction fuel with
  | zero =>
    intro listed a w _ _ hr hy hS H
    refine ⟨fun h => (by rw [h] at hr; cases hr), fun j hj => ?_⟩
    by_cases hji : j = i
    · subst hji; exact hy.wpOp hi hS ⟨fun _ => hS, H⟩
    · have := ready_mono hj hji
      rw [H.1] at this
      cases this
  | succ fuel ih =>
    intro listed a w inv hfree hr hy hS H
    have hun := (mem_ready.1 hr).1
    refine ⟨fun h => (by rw [h] at hr; cases hr), fun j hj => ?_⟩
    have hjn : j < n := by
      rcases Nat.lt_or_ge j n with h | h
      · exact h
      · exact absurd hj (tail_waits hs hc hn inv _ i rfl hin hun j h)
    by_cases hji : j = i
    · subst hji; exact hy.wpOp hi hS ⟨fun _ => hS, H⟩
    · have h1 := H.2 j (ready_mono hj hji)
      obtain ⟨hjun, oj, hoj, hall⟩ := mem_ready.1 hj
      have hnot : ∀ e ∈ oj.after, Region.binds .any e = true → e.on ≠ i := fun e he hb heq => by
        have h1 := hall e he hb
        rw [heq, getD_both hun] at h1
        cases h1
      have h2 := wpOp_putIf hoj (hfree j oj hoj hji hjun hnot) (fun cs b => hsel i oi cs b hi) (fun cs b => hsel j oj cs b hoj) hQ hy h1
      have hfree' : ∀ k ok, ops[k]? = some ok → k ≠ i → (listed.setIfInBounds j true).getD k true = false →
          (∀ e ∈ ok.after, Region.binds .any e = true → e.on ≠ i) → oi.apart ops ok = true := fun k ok hk hki hun hno => by
        refine hfree k ok hk hki ?_ hno
        by_cases hjk : j = k
        · subst hjk; exact hjun
        · rw [getD_set_ne true hjk] at hun; exact hun
      refine wpOp_mono (fun a' w' h3 => ⟨h3.2.1, ih (listed.setIfInBounds j true) a' w' (inv.set hj hjn) hfree' (ready_mono hr (Ne.symm hji)) h3.1 (h3.2.1 hjn) ?_⟩) h2
      rw [Array.setIfInBounds_comm _ _ hji]
      exact h3.2.2

/-- The goal of the walk: what has come up is ahead of the last one. -/
def TailWalk (P : Program) (ops : Array Oper) (Q : Exit → Act → World → Prop) (S : World → Prop) (n fuel : Nat) (listed : Array Bool) (a : Act) (w : World) : Prop :=
  HeadInv .any ops n listed → wpAnyT P ops Q S n fuel listed a w

def tailB (ops : Array Oper) (n : Nat) : Bool := Region.noSelect ops && decide (n < ops.size) && Region.sinkB .any ops n && Region.chainB .any ops n

theorem tail_take {i : Nat} {oi : Oper} {v : Value} {fuel : Nat} {listed : Array Bool} {a : Act} {w : World} (hi : ops[i]? = some oi)
    (hB : tailB ops n = true) (hin : decide (i < n) = true) (hf : Region.free .any ops listed i = true) (hr : (Region.ready .any ops listed).contains i = true)
    (hQ : ∀ c a w, Q (.panic c) (a.put oi.dst v) w → Q (.panic c) a w) (hy : YieldsIf P ops S oi v a) (hS : S w)
    (h : TailWalk P ops Q S n fuel (listed.setIfInBounds i true) (a.put oi.dst v) w) : TailWalk P ops Q S n (fuel + 1) listed a w := by
  intro inv
  simp only [tailB, Bool.and_eq_true, decide_eq_true_eq] at hB hin
  have hr' : i ∈ Region.ready .any ops listed := by simpa using hr
  exact wpAnyT_first hi (Region.noSelect_spec hB.1.1.1) hQ hB.1.2 hB.2 hB.1.1.2 hin fuel listed a w inv (Region.free_spec hi hf) hr' hy hS (h (inv.set hr' hin))

/-- One that comes up alone, ahead of the last. -/
theorem tail_call {i : Nat} {o : Oper} {fuel : Nat} {listed : Array Bool} {a : Act} {w : World} (hr : Region.ready .any ops listed = [i]) (hin : decide (i < n) = true) (ho : ops[i]? = some o)
    (h : ∀ K' : Act → World → Prop, Shut (∀ a w, S w → (S w → TailWalk P ops Q S n fuel (listed.setIfInBounds i true) a w) → K' a w) → if Region.wanted o (yielded ops a.tmps) = true then Oper.wp P o a w K' Q else K' (a.put o.dst undef) w) :
    TailWalk P ops Q S n (fuel + 1) listed a w := by
  intro inv
  simp only [decide_eq_true_eq] at hin
  refine ⟨fun h0 => (by rw [hr] at h0; cases h0), ?_⟩
  rw [hr]
  intro j hj
  have : j = i := by simpa using hj
  subst this
  exact wpOp_step ho (fun K' hK => h K' (fun a w hS hW => hK a w ⟨fun _ => hS, hW hS (inv.set (by rw [hr]; simp) hin)⟩))

/-- The last one. -/
theorem tail_last {o : Oper} {fuel : Nat} {listed : Array Bool} {a : Act} {w : World} (hr : Region.ready .any ops listed = [n]) (hd : Region.ready .any ops (listed.setIfInBounds n true) = []) (ho : ops[n]? = some o)
    (h : ∀ K' : Act → World → Prop, Shut (∀ a w, Q .normal a w → K' a w) → if Region.wanted o (yielded ops a.tmps) = true then Oper.wp P o a w K' Q else K' (a.put o.dst undef) w) :
    TailWalk P ops Q S n (fuel + 1) listed a w := by
  intro _
  refine ⟨fun h0 => (by rw [hr] at h0; cases h0), ?_⟩
  rw [hr]
  intro j hj
  have : j = n := by simpa using hj
  subst this
  refine wpOp_step ho (fun K' hK => h K' (fun a w hq => hK a w ⟨fun h => absurd h (Nat.lt_irrefl _), ?_⟩))
  cases fuel with
  | zero => exact ⟨hd, hq⟩
  | succ f => exact ⟨fun _ => hq, by rw [hd]; simp⟩

/-- Into the last ones, which come up one behind the other. -/
theorem tail_enter {fuel : Nat} {listed : Array Bool} {a : Act} {w : World} (h : wpAnyT P ops Q S n fuel listed a w) : TailWalk P ops Q S n fuel listed a w := fun _ => h
theorem rest_step {k : Nat} {o : Oper} {fuel : Nat} {listed : Array Bool} {a : Act} {w : World} (hr : Region.ready .any ops listed = [k]) (hk : decide (n ≤ k) = true) (ho : ops[k]? = some o)
    (h : ∀ K' : Act → World → Prop, Shut (∀ a w, wpAnyT P ops Q S n fuel (listed.setIfInBounds k true) a w → K' a w) → if Region.wanted o (yielded ops a.tmps) = true then Oper.wp P o a w K' Q else K' (a.put o.dst undef) w) :
    wpAnyT P ops Q S n (fuel + 1) listed a w := by
  simp only [decide_eq_true_eq] at hk
  refine ⟨fun h0 => (by rw [hr] at h0; cases h0), ?_⟩
  rw [hr]
  intro j hj
  have : j = k := by simpa using hj
  subst this
  exact wpOp_step ho (fun K' hK => h K' (fun a w hq => hK a w ⟨fun h => absurd h (by omega), hq⟩))
theorem rest_done {fuel : Nat} {listed : Array Bool} {a : Act} {w : World} (hr : Region.ready .any ops listed = []) (h : Q .normal a w) : wpAnyT P ops Q S n fuel listed a w := by
  cases fuel with
  | zero => exact ⟨hr, h⟩
  | succ f => exact ⟨fun _ => h, by rw [hr]; simp⟩

/-- The beginning. -/
theorem tail_begin {id : Nat} {a : Act} {w : World} (n : Nat) (hm : P.follows .mixedOrders = true) (hS : S w.drew)
    (h : S w.drew → TailWalk P ops Q S n ops.size (Array.replicate ops.size false) a w.drew) : (Code.region id ops true).wp P Q a w := by
  refine wp_region_any hm (wpAny_of_T (S := S) (n := n) _ _ _ _ (h hS ⟨by simp, fun j oj _ hl => (by rw [getD_replicate_false] at hl; cases hl), fun t _ ht => getD_in (by simpa using ht) (getD_replicate_false _ _)⟩))
end
end Go.Proofs.Ytpaiigminmakgaa

/- The document's Fix: a name out of any text. -/
namespace Go.Proofs.Ytpaiigminmakgaa
open Go.RowKit

theorem fix_snoc {l : List UInt8} {k : Nat} (hk : k < l.length) (h5 : k < 5) : fixL (l.take (k + 1)) = fixL (l.take k) ++ [fixB l[k]] := by
  unfold fixL
  rw [List.take_take, List.take_take, Nat.min_eq_right (by omega), Nat.min_eq_right (by omega), List.take_succ_eq_append_getElem hk, List.map_append]
  rfl
theorem fix_end {l : List UInt8} {k : Nat} (h : l.length ≤ k ∨ 5 ≤ k) : fixL (l.take k) = fixL l := by
  unfold fixL
  rw [List.take_take]
  congr 2
  by_cases h5 : 5 ≤ k
  · rw [Nat.min_eq_left (by omega)]
  · rw [List.take_of_length_le (by omega), List.take_of_length_le (by omega)]
/-- The one byte that Fix puts. -/
def fixOne (c : UInt8) : ByteArray := ⟨#[fixB c]⟩
theorem fixOne_size (x : ByteArray) (c : UInt8) : (x ++ fixOne c).size = x.size + 1 := ByteArray.size_append
theorem fix_nine (c : UInt8) : c.toNat % 9 = 0 ∨ c.toNat % 9 = 1 ∨ c.toNat % 9 = 2 ∨ c.toNat % 9 = 3 ∨ c.toNat % 9 = 4 ∨ c.toNat % 9 = 5 ∨ c.toNat % 9 = 6 ∨ c.toNat % 9 = 7 ∨ c.toNat % 9 = 8 := by omega

set_option maxRecDepth 100000 in
set_option maxHeartbeats 4000000 in
theorem fix_any (s : ByteArray) (w : World) :
    Calls Try.prog 36 #[.string s] w fun e w' => e = .returned (.string ⟨(fixL s.data.toList).toArray⟩) ∧ Hid (Drawn w w') := by
  have hl : s.data.toList.length = s.size := by simp
  have HL := Lib.hid hl
  clear hl
  go_enter Try.func36, Try.ntmps36
  go_wp2
  go_loopw [3, 4] (fun o i wr => ∃ (k : Nat) (x : ByteArray), k ≤ s.size ∧ k ≤ 5 ∧ i = .int .i64 k ∧ o = .string x ∧ x.size ≤ 6 ∧ Hid (x = ⟨(fixL (s.data.toList.take k)).toArray⟩) ∧ Hid (Drawn w wr)) (fun _ i _ => 5 - (intOf i).toNat)
  case atStart => exact ⟨0, ⟨#[48]⟩, by omega, by omega, rfl, rfl, by decide, by show _ = _; simp [fixL], Drawn.refl w⟩
  case round =>
    obtain ⟨k, x, hk, hk5, rfl, rfl, hx, HX, HD⟩ := hrel
    by_cases h1 : k < s.size
    · by_cases h2 : k < 5
      · have hq : (s[k].toNat : Int) < 256 := by have := s[k].toNat_lt; omega
        have HK : Hid (x ++ fixOne s[k] = ⟨(fixL (s.data.toList.take (k + 1))).toArray⟩) := by
          show _ = _
          rw [HX.out, fix_snoc (by have := HL.out; omega) h2]
          exact Go.ByteArray.mk_append_mk _ _
        have hsz : x.size + 1 ≤ 6 := by
          have h3 : x.size = (fixL (s.data.toList.take k)).length := by rw [HX.out]; rfl
          rw [fixL_len, List.length_take] at h3
          omega
        have HS : ∀ c, Hid ((x ++ fixOne c).size ≤ 6) := fun c => by
          show _ ≤ _
          have := fixOne_size x c
          omega
        obtain ⟨c, hc⟩ : ∃ c, s[k] = c := ⟨_, rfl⟩
        rw [hc] at HK hq
        rcases fix_nine c with h | h | h | h | h | h | h | h | h
        · have hm1 : (c.toNat : Int) % 9 = 0 := by omega
          have hm2 : ((c.toNat : Int)).tmod 9 = 0 := by rw [Int.tmod_eq_emod_of_nonneg (by omega)]; omega
          have HO : Hid ((ByteArray.mk #[49, 50, 51, 52, 53, 54, 55, 56, 57]).extract 0 1 = fixOne c) := by
            show _ = _
            unfold fixOne fixB
            rw [h]
            rfl
          clear h
          go_wp2
          go_quiet (fail)
          go_wp2
          go_roundw
          case rel => exact ⟨k + 1, x ++ fixOne c, by omega, by omega, by go_num, by rw [HO.out], (HS c).out, HK.out, HD.out.more _⟩
          case measure => simp [intOf]; omega
        · have hm1 : (c.toNat : Int) % 9 = 1 := by omega
          have hm2 : ((c.toNat : Int)).tmod 9 = 1 := by rw [Int.tmod_eq_emod_of_nonneg (by omega)]; omega
          have HO : Hid ((ByteArray.mk #[49, 50, 51, 52, 53, 54, 55, 56, 57]).extract 1 2 = fixOne c) := by
            show _ = _
            unfold fixOne fixB
            rw [h]
            rfl
          clear h
          go_wp2
          go_quiet (fail)
          go_wp2
          go_roundw
          case rel => exact ⟨k + 1, x ++ fixOne c, by omega, by omega, by go_num, by rw [HO.out], (HS c).out, HK.out, HD.out.more _⟩
          case measure => simp [intOf]; omega
        · have hm1 : (c.toNat : Int) % 9 = 2 := by omega
          have hm2 : ((c.toNat : Int)).tmod 9 = 2 := by rw [Int.tmod_eq_emod_of_nonneg (by omega)]; omega
          have HO : Hid ((ByteArray.mk #[49, 50, 51, 52, 53, 54, 55, 56, 57]).extract 2 3 = fixOne c) := by
            show _ = _
            unfold fixOne fixB
            rw [h]
            rfl
          clear h
          go_wp2
          go_quiet (fail)
          go_wp2
          go_roundw
          case rel => exact ⟨k + 1, x ++ fixOne c, by omega, by omega, by go_num, by rw [HO.out], (HS c).out, HK.out, HD.out.more _⟩
          case measure => simp [intOf]; omega
        · have hm1 : (c.toNat : Int) % 9 = 3 := by omega
          have hm2 : ((c.toNat : Int)).tmod 9 = 3 := by rw [Int.tmod_eq_emod_of_nonneg (by omega)]; omega
          have HO : Hid ((ByteArray.mk #[49, 50, 51, 52, 53, 54, 55, 56, 57]).extract 3 4 = fixOne c) := by
            show _ = _
            unfold fixOne fixB
            rw [h]
            rfl
          clear h
          go_wp2
          go_quiet (fail)
          go_wp2
          go_roundw
          case rel => exact ⟨k + 1, x ++ fixOne c, by omega, by omega, by go_num, by rw [HO.out], (HS c).out, HK.out, HD.out.more _⟩
          case measure => simp [intOf]; omega
        · have hm1 : (c.toNat : Int) % 9 = 4 := by omega
          have hm2 : ((c.toNat : Int)).tmod 9 = 4 := by rw [Int.tmod_eq_emod_of_nonneg (by omega)]; omega
          have HO : Hid ((ByteArray.mk #[49, 50, 51, 52, 53, 54, 55, 56, 57]).extract 4 5 = fixOne c) := by
            show _ = _
            unfold fixOne fixB
            rw [h]
            rfl
          clear h
          go_wp2
          go_quiet (fail)
          go_wp2
          go_roundw
          case rel => exact ⟨k + 1, x ++ fixOne c, by omega, by omega, by go_num, by rw [HO.out], (HS c).out, HK.out, HD.out.more _⟩
          case measure => simp [intOf]; omega
        · have hm1 : (c.toNat : Int) % 9 = 5 := by omega
          have hm2 : ((c.toNat : Int)).tmod 9 = 5 := by rw [Int.tmod_eq_emod_of_nonneg (by omega)]; omega
          have HO : Hid ((ByteArray.mk #[49, 50, 51, 52, 53, 54, 55, 56, 57]).extract 5 6 = fixOne c) := by
            show _ = _
            unfold fixOne fixB
            rw [h]
            rfl
          clear h
          go_wp2
          go_quiet (fail)
          go_wp2
          go_roundw
          case rel => exact ⟨k + 1, x ++ fixOne c, by omega, by omega, by go_num, by rw [HO.out], (HS c).out, HK.out, HD.out.more _⟩
          case measure => simp [intOf]; omega
        · have hm1 : (c.toNat : Int) % 9 = 6 := by omega
          have hm2 : ((c.toNat : Int)).tmod 9 = 6 := by rw [Int.tmod_eq_emod_of_nonneg (by omega)]; omega
          have HO : Hid ((ByteArray.mk #[49, 50, 51, 52, 53, 54, 55, 56, 57]).extract 6 7 = fixOne c) := by
            show _ = _
            unfold fixOne fixB
            rw [h]
            rfl
          clear h
          go_wp2
          go_quiet (fail)
          go_wp2
          go_roundw
          case rel => exact ⟨k + 1, x ++ fixOne c, by omega, by omega, by go_num, by rw [HO.out], (HS c).out, HK.out, HD.out.more _⟩
          case measure => simp [intOf]; omega
        · have hm1 : (c.toNat : Int) % 9 = 7 := by omega
          have hm2 : ((c.toNat : Int)).tmod 9 = 7 := by rw [Int.tmod_eq_emod_of_nonneg (by omega)]; omega
          have HO : Hid ((ByteArray.mk #[49, 50, 51, 52, 53, 54, 55, 56, 57]).extract 7 8 = fixOne c) := by
            show _ = _
            unfold fixOne fixB
            rw [h]
            rfl
          clear h
          go_wp2
          go_quiet (fail)
          go_wp2
          go_roundw
          case rel => exact ⟨k + 1, x ++ fixOne c, by omega, by omega, by go_num, by rw [HO.out], (HS c).out, HK.out, HD.out.more _⟩
          case measure => simp [intOf]; omega
        · have hm1 : (c.toNat : Int) % 9 = 8 := by omega
          have hm2 : ((c.toNat : Int)).tmod 9 = 8 := by rw [Int.tmod_eq_emod_of_nonneg (by omega)]; omega
          have HO : Hid ((ByteArray.mk #[49, 50, 51, 52, 53, 54, 55, 56, 57]).extract 8 9 = fixOne c) := by
            show _ = _
            unfold fixOne fixB
            rw [h]
            rfl
          clear h
          go_wp2
          go_quiet (fail)
          go_wp2
          go_roundw
          case rel => exact ⟨k + 1, x ++ fixOne c, by omega, by omega, by go_num, by rw [HO.out], (HS c).out, HK.out, HD.out.more _⟩
          case measure => simp [intOf]; omega
      · have HE : Hid (fixL (s.data.toList.take k) = fixL s.data.toList) := fix_end (Or.inr (by omega))
        have h3 : decide ((k : Int) < 5) = false := by simp; omega
        go_wp2
        go_ret
        exact ⟨by rw [HX.out, HE.out]; rfl, HD.out⟩
    · have HE : Hid (fixL (s.data.toList.take k) = fixL s.data.toList) := fix_end (Or.inl (by have := HL.out; omega))
      go_wp2
      go_ret
      exact ⟨by rw [HX.out, HE.out]; rfl, HD.out⟩
end Go.Proofs.Ytpaiigminmakgaa
