/- Whole numbers as floats: below 2^53 they are told exactly; their order, their parts, their sums. No program in it. -/
import Derived.Test.YtbookbgfipbaoaaGreatDoorRows
import Derived.Laws.FloatArith
import Derived.Laws.ComplexArith
import Derived.Lib.Bytealg
import Derived.Lib.Strings
import Derived.WalkKit
import Derived.WalkSpells
import Derived.WalkLawsBesides
import Derived.BigQuiet
import Derived.Deep.QuietTactic
import Derived.Lib.Hide
import Derived.Maps.AppendAt
import Derived.Deep.RegionLaw
import Derived.Deep.RegionHeld3
import Derived.Lib.SliceRun
import Derived.Laws.IdiomStrings
import Derived.Lib.ConvBytes
import Derived.Lib.AppendZerosOnto
namespace Go.Proofs.YtbookbgfipbaoaaGreatDoor
open Ieee

/-- The float of a whole number. -/
abbrev fl (n : Int) : Nat := floatOfInt .f64 n

/-- A datum whose value is the whole number n. -/
def IsNum (d : Datum) (n : Int) : Prop := ∃ (s : Bool) (j : Nat), d = .number s (n.natAbs * 2 ^ j) (-(j : Int)) ∧ (n ≠ 0 → s = decide (n < 0))

theorem shl_eq (m k : Nat) : m <<< k = m * 2 ^ k := Nat.shiftLeft_eq m k

theorem signed_num {n : Int} {s : Bool} {j up : Nat} (h : n ≠ 0 → s = decide (n < 0)) : signed s (n.natAbs * 2 ^ j) up = n * ((2 ^ (j + up) : Nat) : Int) := by
  unfold signed
  rw [shl_eq, Nat.mul_assoc, ← Nat.pow_add]
  by_cases hn : n = 0
  · subst hn; cases s <;> simp
  · rw [h hn]
    by_cases hneg : n < 0
    · rw [decide_eq_true hneg, if_pos rfl]
      push_cast
      rw [show ((n.natAbs : Int)) = -n by omega, Int.neg_mul, Int.neg_neg]
    · rw [decide_eq_false hneg, if_neg (by simp)]
      push_cast
      rw [show ((n.natAbs : Int)) = n by omega]

theorem cmp_mul (a b : Int) (k : Nat) : compare (a * ((2 ^ k : Nat) : Int)) (b * ((2 ^ k : Nat) : Int)) = compare a b := by
  have hp : (0 : Int) < ((2 ^ k : Nat) : Int) := by exact_mod_cast Nat.two_pow_pos k
  rcases Int.lt_trichotomy a b with h | h | h
  · rw [Int.compare_eq_lt.mpr h, Int.compare_eq_lt.mpr (Int.mul_lt_mul_of_pos_right h hp)]
  · subst h; simp
  · rw [Int.compare_eq_gt.mpr h, Int.compare_eq_gt.mpr (Int.mul_lt_mul_of_pos_right h hp)]

/-- Two such data stand as their numbers do. -/
theorem order_num {c d : Datum} {a b : Int} (hc : IsNum c a) (hd : IsNum d b) : c.order d = some (compare a b) := by
  obtain ⟨s, i, rfl, hs⟩ := hc
  obtain ⟨t, j, rfl, ht⟩ := hd
  unfold Datum.order
  simp only
  congr 1
  rw [signed_num hs, signed_num ht]
  have e : i + (-(i : Int) - min (-(i : Int)) (-(j : Int))).toNat = max i j := by omega
  have e' : j + (-(j : Int) - min (-(i : Int)) (-(j : Int))).toNat = max i j := by omega
  rw [e, e']
  exact cmp_mul a b _

theorem log2_mul (m j : Nat) (h : m ≠ 0) : (m * 2 ^ j).log2 = m.log2 + j := by
  rw [Nat.log2_eq_iff (Nat.mul_ne_zero h (Nat.ne_of_gt (Nat.two_pow_pos j)))]
  have h1 := Nat.log2_self_le h
  have h2 := Nat.lt_log2_self (n := m)
  constructor
  · rw [Nat.pow_add]; exact Nat.mul_le_mul_right _ h1
  · rw [show m.log2 + j + 1 = m.log2 + 1 + j by omega, Nat.pow_add]
    exact Nat.mul_lt_mul_of_pos_right h2 (Nat.two_pow_pos j)

/-- Cut towards zero. -/
theorem cut_zero (s : Bool) (m j : Nat) : Toward.zero.cut s (m * 2 ^ j) j = m := by
  unfold Toward.cut
  simp only [Bool.toNat_false, Nat.add_zero]
  rw [Nat.shiftLeft_eq, Nat.one_mul]
  by_cases h : m = 0
  · subst h; simp
  · rw [log2_mul m j h, Nat.min_eq_left (by omega)]
    exact Nat.mul_div_cancel m (Nat.two_pow_pos j)
theorem integral_num {d : Datum} {n : Int} (h : IsNum d n) : ∃ s, d.integral .zero = .number s n.natAbs 0 ∧ (n ≠ 0 → s = decide (n < 0)) := by
  obtain ⟨s, j, rfl, hs⟩ := h
  refine ⟨s, ?_, hs⟩
  unfold Datum.integral
  simp only
  rw [show (-(j : Int)).toNat = 0 by omega, show (-(-(j : Int))).toNat = j by omega, shl_eq, Nat.pow_zero, Nat.mul_one, cut_zero]
theorem toInt_num {d : Datum} {n : Int} (h : IsNum d n) : d.toInt .zero = some n := by
  obtain ⟨s, e, hs⟩ := integral_num h
  unfold Datum.toInt
  rw [e]
  simp only
  have := signed_num (n := n) (s := s) (j := 0) (up := 0) hs
  simpa using this

theorem format_double : FloatKind.f64.format = double := rfl
theorem cut_even_whole (s : Bool) (m k : Nat) : Toward.even.cut s (m * 2 ^ k) k = m := by
  unfold Toward.cut
  simp only
  rw [Nat.shiftLeft_eq, Nat.one_mul]
  by_cases h : m = 0
  · subst h; simp
  · rw [log2_mul m k h, Nat.min_eq_left (by omega), Nat.mul_div_cancel m (Nat.two_pow_pos k), Nat.mul_mod_left]
    simp

/-- The word nearest to a whole number, however it is told. -/
theorem nearest_whole (s : Bool) (m j : Nat) (h : m < 2 ^ 53) (h0 : m ≠ 0) : double.nearest s (m * 2 ^ j) (-(j : Int)) = double.word s ((m.log2 + 1022) * 2 ^ 52 + m * 2 ^ (52 - m.log2)) := by
  have hL : m.log2 < 53 := (Nat.log2_lt h0).mpr h
  unfold Format.nearest
  rw [if_neg (Nat.mul_ne_zero h0 (Nat.ne_of_gt (Nat.two_pow_pos j))), log2_mul m j h0]
  have e1 : double.leastPlace = -1074 := by decide
  have e2 : double.fractionBits = 52 := rfl
  have e3 : double.binade = 2 ^ 52 := rfl
  simp only [e1, e2, e3]
  have hl : max (-(j : Int) + ((m.log2 + j : Nat) : Int) - (52 : Nat)) (-1074) = (m.log2 : Int) - 52 := by omega
  rw [hl]
  have hk : Toward.even.cut s ((m * 2 ^ j) <<< (-(j : Int) - ((m.log2 : Int) - 52)).toNat) (((m.log2 : Int) - 52) - -(j : Int)).toNat = m * 2 ^ (52 - m.log2) := by
    by_cases hc : j ≤ 52 - m.log2
    · rw [show (-(j : Int) - ((m.log2 : Int) - 52)).toNat = 52 - m.log2 - j by omega, show (((m.log2 : Int) - 52) - -(j : Int)).toNat = 0 by omega, shl_eq, Nat.mul_assoc, ← Nat.pow_add, show j + (52 - m.log2 - j) = 52 - m.log2 by omega]
      have := cut_even_whole s (m * 2 ^ (52 - m.log2)) 0
      simpa using this
    · rw [show (-(j : Int) - ((m.log2 : Int) - 52)).toNat = 0 by omega, show (((m.log2 : Int) - 52) - -(j : Int)).toNat = j - (52 - m.log2) by omega, shl_eq, Nat.pow_zero, Nat.mul_one]
      have := cut_even_whole s (m * 2 ^ (52 - m.log2)) (j - (52 - m.log2))
      rw [Nat.mul_assoc, ← Nat.pow_add, show 52 - m.log2 + (j - (52 - m.log2)) = j by omega] at this
      exact this
  rw [hk, show ((m.log2 : Int) - 52 - -1074).toNat = m.log2 + 1022 by omega]
  congr 1
  apply Nat.min_eq_left
  have hub : m * 2 ^ (52 - m.log2) < 2 ^ 53 := by
    have h2 := Nat.lt_log2_self (n := m)
    calc m * 2 ^ (52 - m.log2) < 2 ^ (m.log2 + 1) * 2 ^ (52 - m.log2) := Nat.mul_lt_mul_of_pos_right h2 (Nat.two_pow_pos _)
      _ = 2 ^ 53 := by rw [← Nat.pow_add]; congr 1; omega
  have hi : double.infRung = 2047 * 2 ^ 52 := by decide
  rw [hi]
  omega

theorem fl_word (n : Int) (h : n.natAbs < 2 ^ 53) (h0 : n ≠ 0) : fl n = double.word (decide (n < 0)) ((n.natAbs.log2 + 1022) * 2 ^ 52 + n.natAbs * 2 ^ (52 - n.natAbs.log2)) := by
  have := nearest_whole (decide (n < 0)) n.natAbs 0 h (by omega)
  simpa [fl, floatOfInt, FloatKind.nearest, FloatKind.encode, format_double, Format.write] using this

theorem isnum_zero (s : Bool) (j : Nat) : IsNum (.number s 0 (-(j : Int))) 0 :=
  ⟨s, j, by rw [Int.natAbs_zero, Nat.zero_mul], fun h => absurd rfl h⟩

/-- The float of a whole number below 2^53 reads as that number. -/
theorem read_fl (n : Int) (h : n.natAbs < 2 ^ 53) : IsNum (double.read (fl n)) n := by
  by_cases h0 : n = 0
  · subst h0
    have e : double.read (fl 0) = .number false 0 (-((1074 : Nat) : Int)) := by decide
    rw [e]
    exact isnum_zero _ _
  · have hm : n.natAbs ≠ 0 := by omega
    have hL : n.natAbs.log2 < 53 := (Nat.log2_lt hm).mpr h
    rw [fl_word n h h0]
    generalize hs : decide (n < 0) = s
    generalize hmm : n.natAbs = m at *
    have hlb : 2 ^ 52 ≤ m * 2 ^ (52 - m.log2) := by
      have h1 := Nat.log2_self_le hm
      calc 2 ^ 52 = 2 ^ m.log2 * 2 ^ (52 - m.log2) := by rw [← Nat.pow_add]; congr 1; omega
        _ ≤ m * 2 ^ (52 - m.log2) := Nat.mul_le_mul_right _ h1
    have hub : m * 2 ^ (52 - m.log2) < 2 ^ 53 := by
      have h2 := Nat.lt_log2_self (n := m)
      calc m * 2 ^ (52 - m.log2) < 2 ^ (m.log2 + 1) * 2 ^ (52 - m.log2) := Nat.mul_lt_mul_of_pos_right h2 (Nat.two_pow_pos _)
        _ = 2 ^ 53 := by rw [← Nat.pow_add]; congr 1; omega
    refine ⟨s, 52 - m.log2, ?_, fun _ => hs.symm⟩
    rw [hmm]
    generalize m * 2 ^ (52 - m.log2) = K at *
    generalize hLL : m.log2 = L at *
    have e1 : double.leastPlace = -1074 := by decide
    have e3 : double.binade = 2 ^ 52 := rfl
    have e4 : double.signWeight = 2 ^ 63 := rfl
    have e5 : double.infRung = 2047 * 2 ^ 52 := by decide
    unfold Format.read
    simp only [e1, e3, e4, e5]
    have hr : (L + 1022) * 2 ^ 52 + K < 2 ^ 63 := by omega
    have hw : double.word s ((L + 1022) * 2 ^ 52 + K) % 2 ^ 63 = (L + 1022) * 2 ^ 52 + K := by
      unfold Format.word
      rw [e4]
      cases s <;> simp <;> omega
    have hn : (double.word s ((L + 1022) * 2 ^ 52 + K) / 2 ^ 63 % 2 == 1) = s := by
      unfold Format.word
      rw [e4]
      cases s
      · simp; omega
      · simp; omega
    rw [hw, hn, if_neg (by omega), if_pos (by omega)]
    have hd : ((L + 1022) * 2 ^ 52 + K) / 2 ^ 52 = L + 1023 := by omega
    have hmod : ((L + 1022) * 2 ^ 52 + K) % 2 ^ 52 = K - 2 ^ 52 := by omega
    rw [hd, hmod, show 2 ^ 52 + (K - 2 ^ 52) = K by omega, show (-1074 : Int) + ((L + 1023 - 1 : Nat) : Int) = -((52 - L : Nat) : Int) by omega]
end Go.Proofs.YtbookbgfipbaoaaGreatDoor

/- The names of layer 1 as lists of bytes: which may be (rightL), and what the order says of them. Plain mathematics. -/
namespace Go.Proofs.YtbookbgfipbaoaaGreatDoor

/-- The byte at a place, 0 beyond the end. -/
def at8 (l : List UInt8) (j : Nat) : Nat := (l.getD j 0).toNat
/-- May the text be a name? -/
def rightL (l : List UInt8) : Bool := decide (1 ≤ l.length ∧ l.length ≤ 6 ∧ at8 l 0 = 48) && (List.range l.length).all (fun j => j == 0 || (decide (49 ≤ at8 l j) && decide (at8 l j ≤ 57)))

theorem rightL_iff (l : List UInt8) : rightL l = true ↔ (1 ≤ l.length ∧ l.length ≤ 6 ∧ at8 l 0 = 48) ∧ ∀ j, 1 ≤ j → j < l.length → 49 ≤ at8 l j ∧ at8 l j ≤ 57 := by
  unfold rightL
  rw [Bool.and_eq_true, decide_eq_true_iff, List.all_eq_true]
  refine and_congr Iff.rfl ⟨fun h j h1 h2 => ?_, fun h j hj => ?_⟩
  · have := h j (List.mem_range.mpr h2)
    simp at this
    omega
  · have hj' := List.mem_range.mp hj
    by_cases h0 : j = 0
    · simp [h0]
    · have := h j (by omega) hj'
      simp [this]

theorem right_true {l : List UInt8} (h1 : 1 ≤ l.length) (h2 : l.length ≤ 6) (h3 : at8 l 0 = 48) (h4 : ∀ j, 1 ≤ j → j < l.length → 49 ≤ at8 l j ∧ at8 l j ≤ 57) : rightL l = true := (rightL_iff l).mpr ⟨⟨h1, h2, h3⟩, h4⟩
theorem right_long {l : List UInt8} (h : 6 < l.length) : rightL l = false := by
  rw [Bool.eq_false_iff]; intro e; have := (rightL_iff l).mp e; omega
theorem right_nil {l : List UInt8} (h : l.length < 1) : rightL l = false := by
  rw [Bool.eq_false_iff]; intro e; have := (rightL_iff l).mp e; omega
theorem right_head {l : List UInt8} (h : at8 l 0 ≠ 48) : rightL l = false := by
  rw [Bool.eq_false_iff]; intro e; have := (rightL_iff l).mp e; omega
theorem right_low {l : List UInt8} (j : Nat) (h1 : 1 ≤ j) (h2 : j < l.length) (h : at8 l j < 49) : rightL l = false := by
  rw [Bool.eq_false_iff]; intro e; have := ((rightL_iff l).mp e).2 j h1 h2; omega
theorem right_high {l : List UInt8} (j : Nat) (h1 : 1 ≤ j) (h2 : j < l.length) (h : 57 < at8 l j) : rightL l = false := by
  rw [Bool.eq_false_iff]; intro e; have := ((rightL_iff l).mp e).2 j h1 h2; omega

theorem at8_lt (s : ByteArray) (k : Nat) (h : k < s.size) : at8 s.data.toList k = s[k].toNat := by
  unfold at8
  have hl : k < s.data.toList.length := by simpa using h
  rw [List.getD_eq_getElem?_getD, List.getElem?_eq_getElem hl]
  rfl

/-- Is the text's first byte 0? -/
theorem hasPrefix_zero (l : List UInt8) : Lib.hasPrefix l [48] = (decide (1 ≤ l.length) && decide (at8 l 0 = 48)) := by
  cases l with
  | nil => simp [Lib.hasPrefix]
  | cons c r =>
    simp only [Lib.hasPrefix, List.isPrefixOf, Bool.and_true]
    have : at8 (c :: r) 0 = c.toNat := rfl
    rw [this, Bool.eq_iff_iff]
    simp
    constructor
    · intro e; rw [← e]; rfl
    · intro e; exact (UInt8.toNat_inj.mp (by simpa using e)).symm
end Go.Proofs.YtbookbgfipbaoaaGreatDoor

/- The names of layer 1: what id.Right and the document's Right answer: rightL of the text's bytes. -/
namespace Go.Proofs.YtbookbgfipbaoaaGreatDoor
open Go.RowKit

theorem ret_int {k : IntKind} {a b : Int} (h : a = b) : Ending.returned (.int k a) = .returned (.int k b) := by rw [h]
theorem ret_bool {a b : Bool} (h : a = b) : Ending.returned (.bool a) = .returned (.bool b) := by rw [h]

set_option maxRecDepth 100000 in
set_option maxHeartbeats 400000 in
theorem hasPrefix_in (s p : ByteArray) (w : World) :
    Calls Tryz.prog 147 #[.string s, .string p] w fun e w' => e = .returned (.bool (Lib.hasPrefix s.data.toList p.data.toList)) ∧ w = w' := by
  by_cases h : p.size ≤ s.size
  · go_enter Tryz.func147, Tryz.ntmps147
    go_wp2
    go_ret
    exact ⟨ret_bool (by rw [← Lib.hasPrefix_raw]; simp [h]), rfl⟩
  · go_enter Tryz.func147, Tryz.ntmps147
    go_wp2
    go_ret
    exact ⟨ret_bool (by rw [← Lib.hasPrefix_raw]; simp [h]), rfl⟩

set_option maxRecDepth 100000 in
set_option maxHeartbeats 400000 in
theorem hasPrefix_any (s p : ByteArray) (w : World) :
    Calls Tryz.prog 91 #[.string s, .string p] w fun e w' => e = .returned (.bool (Lib.hasPrefix s.data.toList p.data.toList)) ∧ w = w' := by
  go_enter Tryz.func91, Tryz.ntmps91
  go_wp2_with (go_at_call 147; refine (hasPrefix_in _ _ _).mono ?_; rintro e w' ⟨rfl, rfl⟩)
  go_ret
  exact ⟨rfl, rfl⟩
theorem hasPrefix_is (s p : ByteArray) (b : Bool) (h : Hid (Lib.hasPrefix s.data.toList p.data.toList = b)) (w : World) :
    Calls Tryz.prog 91 #[.string s, .string p] w fun e w' => e = .returned (.bool b) ∧ w = w' := by
  rw [← h.out]; exact hasPrefix_any s p w

set_option maxRecDepth 100000 in
set_option maxHeartbeats 1000000 in
theorem right_any (s : ByteArray) (w : World) :
    Calls Tryz.prog 22 #[.string s] w fun e w' => e = .returned (.bool (rightL s.data.toList)) ∧ w = w' := by
  have hsz : s.data.toList.length = s.size := by simp
  by_cases h6 : 6 < s.size
  · have HR : Hid (rightL s.data.toList = false) := right_long (by omega)
    clear hsz
    go_enter Tryz.func22, Tryz.ntmps22
    go_wp2
    go_ret
    exact ⟨ret_bool HR.out.symm, rfl⟩
  · by_cases h0 : 1 ≤ s.size ∧ at8 s.data.toList 0 = 48
    · have HP : Hid (Lib.hasPrefix s.data.toList (ByteArray.mk #[48]).data.toList = true) := by
        show Lib.hasPrefix s.data.toList [48] = true
        rw [hasPrefix_zero]; simp [h0]
      obtain ⟨h1, hz⟩ := h0
      have HZ := Lib.hid hz
      have HL := Lib.hid hsz
      clear hz hsz
      go_enter Tryz.func22, Tryz.ntmps22
      go_wp2_with (go_at_call 91; refine (hasPrefix_is _ _ true HP _).mono ?_; rintro e w' ⟨rfl, rfl⟩)
      go_loop [3] (fun i => ∃ k : Nat, 1 ≤ k ∧ k ≤ s.size ∧ i = .int .i64 k ∧ Hid (∀ j, 1 ≤ j → j < k → 49 ≤ at8 s.data.toList j ∧ at8 s.data.toList j ≤ 57)) (fun i => s.size - (intOf i).toNat)
      case atStart => exact ⟨1, by omega, h1, rfl, fun j a b => absurd b (by omega)⟩
      case round =>
        obtain ⟨k, hk1, hk, rfl, HA⟩ := hrel
        by_cases hlt : k < s.size
        · have hb := at8_lt s k hlt
          have HB := Lib.hid hb
          clear hb
          by_cases c1 : (s[k].toNat : Int) < 49
          · go_wp2
            go_ret
            exact ⟨ret_bool (right_low k hk1 (by have := HL.out; omega) (by have := HB.out; omega)).symm, rfl⟩
          · by_cases c2 : 57 < (s[k].toNat : Int)
            · go_wp2
              go_ret
              exact ⟨ret_bool (right_high k hk1 (by have := HL.out; omega) (by have := HB.out; omega)).symm, rfl⟩
            · go_wp2
              go_round
              case rel =>
                refine ⟨k + 1, by omega, by omega, by go_num, fun j a b => ?_⟩
                by_cases e : j = k
                · subst e; have := HB.out; omega
                · exact HA.out j a (by omega)
              case measure => simp [intOf]; omega
        · go_wp2
          go_ret
          exact ⟨ret_bool (right_true (by have := HL.out; omega) (by have := HL.out; omega) HZ.out (fun j a b => HA.out j a (by have := HL.out; omega))).symm, rfl⟩
    · have HP : Hid (Lib.hasPrefix s.data.toList (ByteArray.mk #[48]).data.toList = false) := by
        show Lib.hasPrefix s.data.toList [48] = false
        rw [hasPrefix_zero]; simp; omega
      have HR : Hid (rightL s.data.toList = false) := by
        by_cases h1 : 1 ≤ s.size
        · exact right_head (by omega)
        · exact right_nil (by omega)
      clear hsz h0
      go_enter Tryz.func22, Tryz.ntmps22
      go_wp2_with (go_at_call 91; refine (hasPrefix_is _ _ false HP _).mono ?_; rintro e w' ⟨rfl, rfl⟩)
      go_ret
      exact ⟨ret_bool HR.out.symm, rfl⟩
theorem right_is (s : ByteArray) (b : Bool) (h : Hid (rightL s.data.toList = b)) (w : World) :
    Calls Tryz.prog 22 #[.string s] w fun e w' => e = .returned (.bool b) ∧ w = w' := by
  rw [← h.out]; exact right_any s w

set_option maxRecDepth 100000 in
set_option maxHeartbeats 1000000 in
theorem rright_any (s : ByteArray) (w : World) :
    Calls Tryz.prog 33 #[.string s] w fun e w' => e = .returned (.bool (rightL s.data.toList)) ∧ w = w' := by
  have hsz : s.data.toList.length = s.size := by simp
  by_cases h1 : s.size < 1
  · have HR : Hid (rightL s.data.toList = false) := right_nil (by omega)
    clear hsz
    go_enter Tryz.func33, Tryz.ntmps33
    go_wp2
    go_ret
    exact ⟨ret_bool HR.out.symm, rfl⟩
  by_cases h6 : 6 < s.size
  · have HR : Hid (rightL s.data.toList = false) := right_long (by omega)
    clear hsz
    go_enter Tryz.func33, Tryz.ntmps33
    go_wp2
    go_ret
    exact ⟨ret_bool HR.out.symm, rfl⟩
  have h0 : 0 < s.size := by omega
  have hb := at8_lt s 0 h0
  by_cases hz : ((s[0].toNat : Int) != 48) = true
  · have HR : Hid (rightL s.data.toList = false) := right_head (by simp at hz; omega)
    clear hsz hb
    go_enter Tryz.func33, Tryz.ntmps33
    go_wp2
    go_ret
    exact ⟨ret_bool HR.out.symm, rfl⟩
  · have hz' : ((s[0].toNat : Int) != 48) = false := by simpa using hz
    have HZ : Hid (at8 s.data.toList 0 = 48) := by simp at hz; show _ = _; omega
    have HL := Lib.hid hsz
    clear hz hsz hb
    go_enter Tryz.func33, Tryz.ntmps33
    go_wp2
    go_loop [3] (fun i => ∃ k : Nat, 1 ≤ k ∧ k ≤ s.size ∧ i = .int .i64 k ∧ Hid (∀ j, 1 ≤ j → j < k → 49 ≤ at8 s.data.toList j ∧ at8 s.data.toList j ≤ 57)) (fun i => s.size - (intOf i).toNat)
    case atStart => exact ⟨1, by omega, by omega, rfl, fun j a b => absurd b (by omega)⟩
    case round =>
      obtain ⟨k, hk1, hk, rfl, HA⟩ := hrel
      by_cases hlt : k < s.size
      · have hb := at8_lt s k hlt
        have HB := Lib.hid hb
        clear hb
        by_cases c1 : (s[k].toNat : Int) < 49
        · go_wp2
          go_ret
          exact ⟨ret_bool (right_low k hk1 (by have := HL.out; omega) (by have := HB.out; omega)).symm, rfl⟩
        · by_cases c2 : 57 < (s[k].toNat : Int)
          · go_wp2
            go_ret
            exact ⟨ret_bool (right_high k hk1 (by have := HL.out; omega) (by have := HB.out; omega)).symm, rfl⟩
          · go_wp2
            go_round
            case rel =>
              refine ⟨k + 1, by omega, by omega, by go_num, fun j a b => ?_⟩
              by_cases e : j = k
              · subst e; have := HB.out; omega
              · exact HA.out j a (by omega)
            case measure => simp [intOf]; omega
      · go_wp2
        go_ret
        exact ⟨ret_bool (right_true (by have := HL.out; omega) (by have := HL.out; omega) HZ.out (fun j a b => HA.out j a (by have := HL.out; omega))).symm, rfl⟩
theorem rright_is (s : ByteArray) (b : Bool) (h : Hid (rightL s.data.toList = b)) (w : World) :
    Calls Tryz.prog 33 #[.string s] w fun e w' => e = .returned (.bool b) ∧ w = w' := by
  rw [← h.out]; exact rright_any s w
end Go.Proofs.YtbookbgfipbaoaaGreatDoor

/- Rows of bytes: how they lie in memory; append onto a row of the call's own; bytes as a text and back. -/
namespace Go.Proofs.YtbookbgfipbaoaaGreatDoor.By
open Go.RowKit

def bytesV (bs : List UInt8) : List Value := bs.map fun x => .int .u8 (x.toNat : Int)
theorem bytesV_append (a b : List UInt8) : bytesV (a ++ b) = bytesV a ++ bytesV b := by simp [bytesV]

/-- In w the slice (A, n) holds the bytes bs, in the block g. -/
def BytesAt (w : World) (g : Nat) (A : Option Addr) (n : Nat) (bs : List UInt8) : Prop :=
  bs.length = n ∧ (0 < n → ∃ off, A = some ⟨g, off, none⟩ ∧ ∀ k, k < n → w.cell? ⟨g, off + k, none⟩ = some (.int .u8 ((bs.getD k 0).toNat : Int)))

theorem BytesAt.nil (w : World) (g : Nat) (A : Option Addr) : BytesAt w g A 0 [] := ⟨rfl, fun h => absurd h (by omega)⟩
theorem BytesAt.hold {w w' : World} {g : Nat} {A : Option Addr} {n : Nat} {bs : List UInt8} (h : BytesAt w g A n bs) (hk : w'.heap[g]? = w.heap[g]?) : BytesAt w' g A n bs :=
  ⟨h.1, fun hn => by
    obtain ⟨off, e, hc⟩ := h.2 hn
    exact ⟨off, e, fun k hk' => (World.cell?_of_block (a := ⟨g, off + k, none⟩) hk).trans (hc k hk')⟩⟩
theorem BytesAt.lt {w : World} {g : Nat} {A : Option Addr} {n : Nat} {bs : List UInt8} (h : BytesAt w g A n bs) (hn : 0 < n) : g < w.heap.size := by
  obtain ⟨off, e, hc⟩ := h.2 hn
  exact World.block_lt_of_cell? w _ (hc 0 hn)
theorem BytesAt.keep {w w' : World} {g : Nat} {A : Option Addr} {n : Nat} {bs : List UInt8} (h : BytesAt w g A n bs) (hb : Below w.heap.size w w') : BytesAt w' g A n bs := by
  rcases Nat.eq_zero_or_pos n with rfl | hn
  · exact ⟨h.1, fun h => absurd h (by omega)⟩
  · exact h.hold (hb.block g (h.lt hn))
theorem BytesAt.grown {w w' : World} {g : Nat} {A : Option Addr} {n : Nat} {bs : List UInt8} (h : BytesAt w g A n bs) {row : Option Nat} (hg : w.grownBy w' row) (hr : 0 < n → row ≠ some g) : BytesAt w' g A n bs := by
  rcases Nat.eq_zero_or_pos n with rfl | hn
  · exact ⟨h.1, fun h => absurd h (by omega)⟩
  · exact h.hold (hg.block g (h.lt hn) (fun e => hr hn e.symm))
/-- What is behind the first k. -/
theorem BytesAt.drop {w : World} {g off n : Nat} {bs : List UInt8} (h : BytesAt w g (some ⟨g, off, none⟩) n bs) (k : Nat) (hk : k ≤ n) : BytesAt w g (some ⟨g, off + k, none⟩) (n - k) (bs.drop k) := by
  refine ⟨by rw [List.length_drop, h.1], fun hn => ⟨off + k, rfl, fun j hj => ?_⟩⟩
  obtain ⟨off', e, hc⟩ := h.2 (by omega)
  injection e with e
  injection e with e1 e2
  subst e2
  have := hc (k + j) (by omega)
  rw [Nat.add_assoc, this]
  simp [List.getD_eq_getElem?_getD, List.getElem?_drop]
theorem BytesAt.take {w : World} {g : Nat} {A : Option Addr} {n : Nat} {bs : List UInt8} (h : BytesAt w g A n bs) (k : Nat) (hk : k ≤ n) : BytesAt w g A k (bs.take k) := by
  refine ⟨by rw [List.length_take, h.1]; omega, fun hn => ?_⟩
  obtain ⟨off, e, hc⟩ := h.2 (by omega)
  refine ⟨off, e, fun j hj => ?_⟩
  rw [hc j (by omega)]
  simp [List.getD_eq_getElem?_getD, hj]

theorem addr_add (b o j : Nat) : (⟨b, o, none⟩ : Addr).add j = ⟨b, o + j, none⟩ := by unfold Addr.add; split <;> simp_all
theorem bytes_cell {w : World} {g : Nat} {ad : Addr} {m : Nat} {ys : List UInt8} (h : BytesAt w g (some ad) m ys) : ∀ j u, (bytesV ys)[j]? = some u → w.cell? (ad.add j) = some u := by
  intro j u hu
  unfold bytesV at hu
  rw [List.getElem?_map] at hu
  rcases Nat.lt_or_ge j ys.length with hj | hj
  · obtain ⟨off, e, hc⟩ := h.2 (by have := h.1; omega)
    injection e with e
    subst e
    have h1 := hc j (by have := h.1; omega)
    rw [List.getElem?_eq_getElem hj] at hu
    simp only [Option.map_some, Option.some.injEq] at hu
    subst hu
    rw [addr_add]
    simpa [List.getD_eq_getElem?_getD, List.getElem?_eq_getElem hj] using h1
  · rw [List.getElem?_eq_none hj] at hu
    simp at hu

theorem own_form {w : World} {B : Nat} {e : TypeId} {v : Value} {n : Nat} {xs : List Value} (h : w.ownsRow B e 1 v n xs) : ∃ A c, v = .slice A n c := by
  rcases h.2 with ⟨rfl, rfl⟩ | ⟨g, cap, _, rfl, _⟩
  · exact ⟨none, 0, rfl⟩
  · exact ⟨_, cap, rfl⟩
/-- A row of the call's own holds its bytes. -/
theorem own_bytes {w : World} {B : Nat} {e : TypeId} {A : Option Addr} {n c : Nat} {bs : List UInt8} (h : w.ownsRow B e 1 (.slice A n c) n (bytesV bs)) : ∃ g, BytesAt w g A n bs ∧ B ≤ max B g ∧ (0 < n → B ≤ g ∧ g < w.heap.size) ∧ n ≤ c := by
  have hl : bs.length = n := by have := h.1; simpa [bytesV] using this
  have hh := h
  rcases h.2 with ⟨e, rfl⟩ | ⟨g, cap, cur, e, hB, hg, hnc, _, hs, ht⟩
  · injection e with e1 e2 e3
    exact ⟨0, ⟨hl, fun h => absurd h (by omega)⟩, by omega, fun h => absurd h (by omega), by omega⟩
  · injection e with e1 e2 e3
    subst e1 e3
    refine ⟨g, ⟨hl, fun hn => ⟨0, rfl, fun k hk => ?_⟩⟩, by omega, fun _ => ⟨hB, (hh.lt g rfl).2⟩, hnc⟩
    rw [Nat.zero_add, hh.cellAt k (by omega)]
    simp [bytesV, List.getD_eq_getElem?_getD, List.getElem?_eq_getElem (show k < bs.length by omega)]
theorem own_below {w w' : World} {B : Nat} {e : TypeId} {v : Value} {n : Nat} {xs : List Value} (h : w.ownsRow B e 1 v n xs) (hb : Below w.heap.size w w') : w'.ownsRow B e 1 v n xs :=
  h.kept (row := none) ⟨hb.os, hb.tape, hb.output, hb.size, fun k hk _ => hb.block k hk⟩ (by cases v.ownBlock <;> simp)
theorem own_base {w : World} {B B' : Nat} {e : TypeId} {v : Value} {n : Nat} {xs : List Value} (h : w.ownsRow B e 1 v n xs) (hB : B' ≤ B) : w.ownsRow B' e 1 v n xs := by
  refine ⟨h.1, ?_⟩
  rcases h.2 with h2 | ⟨g, cap, cur, e, hg, r⟩
  · exact .inl h2
  · exact .inr ⟨g, cap, cur, e, by omega, r⟩

theorem Tryz.infoB : (Tryz.prog.info? 5).map (fun i => (i.zero, i.size, i.bytes)) = some (some (.int .u8 0), 1, 1) := by kernel_rfl

theorem run_append_bytes {ty : TypeId} {w : World} {B g : Nat} {v : Value} {n : Nat} {zs : List UInt8} (hown : w.ownsRow B 5 1 v n (bytesV zs)) {A : Option Addr} {m : Nat} {ys : List UInt8} (c : Nat)
    (hr : BytesAt w g A m ys) (hb : n + m ≤ 8796093022208) (hB : B ≤ w.heap.size) :
    ∃ v' w', (Builtin.append_ #[48, 48] ty #[v, .slice A m c]).run Tryz.prog w = .ok v' w' ∧ w'.ownsRow B 5 1 v' (n + m) (bytesV (zs ++ ys)) ∧ w.grownBy w' v.ownBlock ∧ (v'.ownBlock = v.ownBlock ∨ v'.ownBlock = some w.heap.size) := by
  obtain ⟨i, hi, hz0, hz1, hz2⟩ := info_parts Tryz.infoB
  rcases A with _ | ad
  · have hm : m = 0 := by
      rcases Nat.eq_zero_or_pos m with h0 | h0
      · exact h0
      · obtain ⟨_, h, _⟩ := hr.2 h0
        cases h
    subst hm
    have hy : ys = [] := List.eq_nil_of_length_eq_zero hr.1
    subst hy
    refine ⟨v, w, ?_, by simpa using hown, World.grownBy.refl w _, .inl rfl⟩
    rcases hown.2 with ⟨rfl, rfl⟩ | ⟨g, cap, cur, rfl, _, _, hnc, _⟩
    · simp [Builtin.append_, run_underlying Tryz.underlying48, sizeOf, typeInfo, hi, Builtin.lenOf, Builtin.firstCells]
    · simp [Builtin.append_, run_underlying Tryz.underlying48, sizeOf, typeInfo, hi, Builtin.lenOf, Builtin.firstCells, hnc, storeCells]
  · obtain ⟨v', w', hrun, h2, h3, _, h5⟩ := run_append_own_at (P := Tryz.prog) w B 48 ty 5 i (.int .u8 0) 1 1 Tryz.underlying48 hi hz0 hz1 hz2 rfl (by decide) v n _ hown ad m c (bytesV ys) (by simpa [bytesV] using hr.1) (bytes_cell hr)
      (fun u hu => by simp only [bytesV, List.mem_map] at hu; obtain ⟨_, _, rfl⟩ := hu; rfl) (by unfold maxLen; omega) (by omega) hB
    exact ⟨v', w', hrun, by rw [bytesV_append]; exact h2, h3, h5⟩

theorem wp_append_bytes {o : Oper} {a : Act} {K : Act → World → Prop} {Q : Exit → Act → World → Prop} (s x : Operand) (ho : o.op = .call { callee := .builtin .append, args := #[s, x], argTypes := #[48, 48] })
    {w : World} {B g : Nat} {v : Value} {n : Nat} {zs : List UInt8} (hs : a.eval s = v) (hown : w.ownsRow B 5 1 v n (bytesV zs)) {A : Option Addr} {m : Nat} {ys : List UInt8} {c : Nat} (hx : a.eval x = .slice A m c)
    (hr : BytesAt w g A m ys) (hb : n + m ≤ 8796093022208) (hB : B ≤ w.heap.size)
    (h : ∀ A' c' w', w'.ownsRow B 5 1 (.slice A' (n + m) c') (n + m) (bytesV (zs ++ ys)) → w.grownBy w' v.ownBlock → (Value.ownBlock (.slice A' (n + m) c') = v.ownBlock ∨ Value.ownBlock (.slice A' (n + m) c') = some w.heap.size) → K (a.put o.dst (.slice A' (n + m) c')) w') : o.wp Tryz.prog a w K Q := by
  obtain ⟨v', w', hrun, h2, h3, h4⟩ := run_append_bytes (ty := o.type) hown c hr hb hB
  obtain ⟨A', c', rfl⟩ := own_form h2
  unfold Oper.wp execOp
  simp only [ho, resolve, invoke, builtin, Sem.run_bind, Sem.run_pure, Result.andThen_ok, List.map_toArray, List.map_cons, List.map_nil, hs, hx, hrun]
  exact h A' c' w' h2 h3 h4

theorem wpList_append_bytes {ops : Array Oper} {rest : List Oper} {o : Oper} {a : Act} {Q : Exit → Act → World → Prop} (hgd : o.guard = none) (s x : Operand) (ho : o.op = .call { callee := .builtin .append, args := #[s, x], argTypes := #[48, 48] })
    {w : World} {B g : Nat} {v : Value} {n : Nat} {zs : List UInt8} (hs : a.eval s = v) (hown : w.ownsRow B 5 1 v n (bytesV zs)) {A : Option Addr} {m : Nat} {ys : List UInt8} {c : Nat} (hx : a.eval x = .slice A m c)
    (hr : BytesAt w g A m ys) (hb : n + m ≤ 8796093022208) (hB : B ≤ w.heap.size)
    (h : ∀ A' c' w', w'.ownsRow B 5 1 (.slice A' (n + m) c') (n + m) (bytesV (zs ++ ys)) → w.grownBy w' v.ownBlock → (Value.ownBlock (.slice A' (n + m) c') = v.ownBlock ∨ Value.ownBlock (.slice A' (n + m) c') = some w.heap.size) → wpList Tryz.prog ops Q rest (a.put o.dst (.slice A' (n + m) c')) w') :
    wpList Tryz.prog ops Q (o :: rest) a w :=
  wpList_plain hgd fun _ hK => wp_append_bytes s x ho hs hown hx hr hb hB fun A' c' w' h2 h3 h4 => hK _ _ (h A' c' w' h2 h3 h4)

/-- Bytes as a text. -/
theorem run_text {w : World} {g : Nat} {A : Option Addr} {n : Nat} {bs : List UInt8} (c : Nat) (h : BytesAt w g A n bs) : (convert 48 9 (.slice A n c)).run Tryz.prog w = .ok (.string ⟨bs.toArray⟩) w := by
  have hl := h.1
  subst hl
  rcases A with _ | ad
  · have : bs = [] := by
      rcases Nat.eq_zero_or_pos bs.length with h0 | h0
      · exact List.eq_nil_of_length_eq_zero h0
      · obtain ⟨_, h, _⟩ := h.2 h0; cases h
    subst this
    show (convert 48 9 (.slice none 0 c)).run Tryz.prog w = _
    rw [run_convert_bytes_string w 48 9 5 none 0 c Tryz.underlying48 Tryz.underlying5 Tryz.underlying9]
    simp [Conv.bytesToString]
    rfl
  · refine run_convert_bytes_back w 48 9 5 ad c bs Tryz.underlying48 Tryz.underlying5 Tryz.underlying9 fun j hj => ?_
    exact bytes_cell h j _ (by simp [bytesV, hj])

/-- A text's bytes, in a row of the call's own. -/
theorem text_row (w : World) (s : ByteArray) : BytesAt (Lib.bytesWorld w 5 s) w.heap.size (some ⟨w.heap.size, 0, none⟩) s.size s.data.toList := by
  refine ⟨by simp, fun _ => ⟨0, rfl, fun k hk => ?_⟩⟩
  rw [Nat.zero_add, Lib.bytesWorld_cell w 5 s k hk]
theorem text_below (w : World) (s : ByteArray) : Below w.heap.size w (Lib.bytesWorld w 5 s) :=
  ⟨rfl, rfl, rfl, by rw [Lib.bytesWorld_size]; omega, fun k hk => Lib.bytesWorld_at_old w 5 s k hk⟩
theorem grown_of_below {w w' : World} (h : Below w.heap.size w w') (row : Option Nat) : w.grownBy w' row := ⟨h.os, h.tape, h.output, h.size, fun k hk _ => h.block k hk⟩

/-- The answer is a row of the call's own that holds the bytes bs; nothing that was there has turned. -/
def OwnBytes (bs : List UInt8) (w : World) (e : Ending) (w' : World) : Prop :=
  ∃ A c, e = .returned (.slice A bs.length c) ∧ w'.ownsRow w.heap.size 5 1 (.slice A bs.length c) bs.length (bytesV bs) ∧ Below w.heap.size w w'
end Go.Proofs.YtbookbgfipbaoaaGreatDoor.By

/- Numbers as bytes: plain mathematics, no program in it. -/
namespace Go.Proofs.YtbookbgfipbaoaaGreatDoor.By

/-- A number's digits of base 128, the lowest first, each but the last one 128 more. -/
def digitsF (n : Nat) : List UInt8 := if h : n < 128 then [UInt8.ofNat n] else UInt8.ofNat (n % 128 + 128) :: digitsF (n / 128)
termination_by n
decreasing_by omega

theorem digitsF_small {n : Nat} (h : n < 128) : digitsF n = [UInt8.ofNat n] := by rw [digitsF]; simp [h]
theorem digitsF_big {n : Nat} (h : 128 ≤ n) : digitsF n = UInt8.ofNat (n % 128 + 128) :: digitsF (n / 128) := by rw [digitsF]; simp [show ¬ n < 128 by omega]
theorem digitsF_pos (n : Nat) : 1 ≤ (digitsF n).length := by
  by_cases h : n < 128
  · rw [digitsF_small h]; simp
  · rw [digitsF_big (by omega)]; simp
theorem digitsF_len : ∀ (k n : Nat), n < 128 ^ (k + 1) → (digitsF n).length ≤ k + 1
  | 0, n, h => by rw [digitsF_small (by simpa using h)]; simp
  | k + 1, n, h => by
    by_cases hn : n < 128
    · rw [digitsF_small hn]; simp
    · rw [digitsF_big (by omega)]
      have h2 : n / 128 < 128 ^ (k + 1) := by
        rw [Nat.div_lt_iff_lt_mul (by omega)]
        rw [Nat.pow_succ] at h
        exact h
      have := digitsF_len k (n / 128) h2
      simp only [List.length_cons]
      omega

/-- The number that bytes begin with: the number, how many bytes it has, what is wrong. -/
def firstF : List UInt8 → Nat → Nat → Nat × Nat × Nat
  | [], _, _ => (0, 0, 2)
  | d :: r, k, acc =>
    if 128 ≤ d.toNat then (if k + 1 = 9 then (0, 0, 3) else firstF r (k + 1) (acc + d.toNat % 128 * 128 ^ k))
    else if d.toNat = 0 ∧ 0 < k then (0, 0, 3) else (acc + d.toNat % 128 * 128 ^ k, k + 1, 0)

theorem toNat_ofNat {n : Nat} (h : n < 256) : (UInt8.ofNat n).toNat = n := by simp; omega

/-- What is taken is put by just its bytes. -/
theorem first_back : ∀ (bs : List UInt8) (k acc n s : Nat), firstF bs k acc = (n, s, 0) → ∃ m, n = acc + m * 128 ^ k ∧ s = k + (digitsF m).length ∧ bs.take (digitsF m).length = digitsF m ∧ (digitsF m).length ≤ bs.length ∧ (0 < k → 0 < m) := by
  intro bs
  induction bs with
  | nil => intro k acc n s h; simp [firstF] at h
  | cons d r ih =>
    intro k acc n s h
    have hd : d.toNat < 256 := d.toNat_lt
    unfold firstF at h
    split at h
    · rename_i h1
      split at h
      · simp at h
      · obtain ⟨m, hn, hs, ht, hl, hp⟩ := ih _ _ _ _ h
        have hm := hp (by omega)
        have hq : 128 ≤ d.toNat % 128 + 128 * m := by omega
        have e1 : (d.toNat % 128 + 128 * m) % 128 = d.toNat % 128 := by omega
        have e2 : (d.toNat % 128 + 128 * m) / 128 = m := by omega
        refine ⟨d.toNat % 128 + 128 * m, ?_, ?_, ?_, ?_, fun _ => by omega⟩
        · rw [hn, Nat.pow_succ, Nat.add_mul, Nat.mul_comm (128 ^ k) 128, ← Nat.mul_assoc, Nat.mul_comm m 128]
          omega
        · rw [digitsF_big hq, e2, hs]; simp only [List.length_cons]; omega
        · rw [digitsF_big hq, e2, e1]
          simp only [List.length_cons, List.take_succ_cons, ht]
          congr 1
          rw [show d.toNat % 128 + 128 = d.toNat by omega]
          simp
        · rw [digitsF_big hq, e2]; simp only [List.length_cons]; omega
    · rename_i h1
      split at h
      · simp at h
      · rename_i h2
        injection h with h3 h4
        injection h4 with h4 _
        refine ⟨d.toNat, by rw [← h3, Nat.mod_eq_of_lt (by omega)], ?_, ?_, ?_, fun hk => ?_⟩
        · rw [digitsF_small (by omega), ← h4]; simp
        · rw [digitsF_small (by omega)]; simp
        · rw [digitsF_small (by omega)]; simp
        · rcases Nat.eq_zero_or_pos d.toNat with h5 | h5
          · exact absurd ⟨h5, hk⟩ h2
          · exact h5

/-- A Reader: what isn't taken yet, what was wrong first. -/
abbrev Rd := List UInt8 × Nat
/-- The next number, and the Reader then. -/
def numF (st : Rd) (most : Int) : Int × Rd :=
  if st.2 ≠ 0 then (0, st) else
  if (firstF st.1 0 0).2.2 ≠ 0 then (0, (st.1, (firstF st.1 0 0).2.2)) else
  if most < ((firstF st.1 0 0).1 : Int) then (0, (st.1, 3)) else (((firstF st.1 0 0).1 : Int), (st.1.drop (firstF st.1 0 0).2.1, 0))
/-- The next text. -/
def textF (st : Rd) (most : Int) : List UInt8 × Rd :=
  if (numF st most).2.2 ≠ 0 then ([], (numF st most).2) else
  if ((numF st most).2.1.length : Int) < (numF st most).1 then ([], ((numF st most).2.1, 2)) else
  ((numF st most).2.1.take (numF st most).1.toNat, ((numF st most).2.1.drop (numF st most).1.toNat, 0))
def endF (st : Rd) : Nat := if st.2 ≠ 0 then st.2 else if st.1 = [] then 0 else 3

end Go.Proofs.YtbookbgfipbaoaaGreatDoor.By

/- wire.digits; the library's Clone and Grow of bytes. -/
namespace Go.Proofs.YtbookbgfipbaoaaGreatDoor.By
open Go.RowKit

/-- The row of one byte that append lays first. -/
theorem one_byte {w : World} {g : Nat} {e : TypeId} {x : UInt8} {fr : Nat × Nat} {v : Int} (hv : v = (x.toNat : Int)) (h : w.heap[g]? = some (.cells #[.int .u8 v] e fr)) : BytesAt w g (some ⟨g, 0, none⟩) 1 [x] :=
  ⟨rfl, fun _ => ⟨0, rfl, fun k hk => by
    obtain rfl : k = 0 := by omega
    have := cell_of_row w g 0 _ _ _ h
    subst hv
    simpa using this⟩⟩

set_option maxRecDepth 100000 in
set_option maxHeartbeats 1000000 in
theorem digits_any (n : Int) (w : World) (hn : n ≤ 9223372036854775807) : Calls Tryz.prog 159 #[.int .i64 n] w (OwnBytes (digitsF n.toNat) w) := by
  go_enter Tryz.func159, Tryz.ntmps159
  go_wp2
  all_goals
    go_loopw [0, 3] (fun x s wr => ∃ (m : Nat) (A : Option Addr) (c : Nat) (bs : List UInt8), x = .int .i64 m ∧ s = .slice A bs.length c ∧ m ≤ 9223372036854775807 ∧ Hid (bs ++ digitsF m = digitsF n.toNat) ∧ Hid (wr.ownsRow w.heap.size 5 1 (.slice A bs.length c) bs.length (bytesV bs)) ∧ Hid (Below w.heap.size w wr)) (fun x _ _ => (intOf x).toNat)
    case atStart => exact ⟨n.toNat, none, 0, [], by congr 1; omega, rfl, by omega, rfl, World.ownsRow_nil _ _ _ _, Below.refl _ _⟩
    case round =>
      obtain ⟨m, A, c, bs, rfl, rfl, hm, HD, HO, HB⟩ := hrel
      have hl : bs.length ≤ 10 := by
        have h1 := digitsF_len 9 n.toNat (by have : (128 : Nat) ^ 10 = 1180591620717411303424 := by decide
                                             omega)
        rw [← HD.out] at h1
        simp at h1
        omega
      by_cases h128 : 128 ≤ m
      · have h1 : (128 : Int) ≤ m := by omega
        have HD2 : Hid ((bs ++ [UInt8.ofNat (m % 128 + 128)]) ++ digitsF (m / 128) = digitsF n.toNat) := by
          show _ = _
          rw [← HD.out, digitsF_big h128]; simp
        have HR : Hid (BytesAt (wr.alloc (.cells #[.int .u8 ((m : Int) % 128 + 128)] 5)) wr.heap.size (some ⟨wr.heap.size, 0, none⟩) 1 [UInt8.ofNat (m % 128 + 128)]) :=
          one_byte (by rw [toNat_ofNat (by omega)]; omega) (heap_alloc_new wr _)
        have HO1 : Hid ((wr.alloc (.cells #[.int .u8 ((m : Int) % 128 + 128)] 5)).ownsRow w.heap.size 5 1 (.slice A bs.length c) bs.length (bytesV bs)) := own_below HO.out ((Below.refl _ _).alloc (Nat.le_refl _) _)
        have HB1 : Hid (Below w.heap.size w (wr.alloc (.cells #[.int .u8 ((m : Int) % 128 + 128)] 5))) := HB.out.alloc HB.out.size _
        have q1 : ((m : Int)).tdiv 128 = ((m / 128 : Nat) : Int) := by rw [Int.tdiv_eq_ediv_of_nonneg (by omega)]; omega
        go_wp2_with (at_builtin; refine wpList_append_bytes (B := w.heap.size) (g := wr.heap.size) (v := .slice A bs.length c) (n := bs.length) (zs := bs) (A := some ⟨wr.heap.size, 0, none⟩) (m := 1) (c := 1) (ys := [UInt8.ofNat (m % 128 + 128)]) rfl _ _ rfl rfl HO1.out rfl HR.out (by omega) HB1.out.size ?_; intro A3 c3 w3 hown3 hg3 _; have HO3 := Lib.hid hown3; have HB3 : Hid (Below w.heap.size w w3) := HB1.out.grown hg3 HB1.out.size (fun i hi => (HO1.out.lt i hi).1); clear hown3 hg3)
        go_roundw
        case rel =>
          exact ⟨m / 128, A3, c3, bs ++ [UInt8.ofNat (m % 128 + 128)], by go_num, by simp, by omega, HD2, by simpa [Hid] using HO3.out, HB3⟩
        case measure => simp [intOf]; omega
      · have h1 : ¬ ((128 : Int) ≤ m) := by omega
        have h2 : (m : Int) % 256 = m := by omega
        have HD2 : Hid (bs ++ [UInt8.ofNat m] = digitsF n.toNat) := by
          show _ = _
          rw [← HD.out, digitsF_small (by omega)]
        have HR : Hid (BytesAt (wr.alloc (.cells #[.int .u8 (m : Int)] 5)) wr.heap.size (some ⟨wr.heap.size, 0, none⟩) 1 [UInt8.ofNat m]) :=
          one_byte (by rw [toNat_ofNat (by omega)]) (heap_alloc_new wr _)
        have HO1 : Hid ((wr.alloc (.cells #[.int .u8 (m : Int)] 5)).ownsRow w.heap.size 5 1 (.slice A bs.length c) bs.length (bytesV bs)) := own_below HO.out ((Below.refl _ _).alloc (Nat.le_refl _) _)
        have HB1 : Hid (Below w.heap.size w (wr.alloc (.cells #[.int .u8 (m : Int)] 5))) := HB.out.alloc HB.out.size _
        go_wp2_with (at_builtin; refine wpList_append_bytes (B := w.heap.size) (g := wr.heap.size) (v := .slice A bs.length c) (n := bs.length) (zs := bs) (A := some ⟨wr.heap.size, 0, none⟩) (m := 1) (c := 1) (ys := [UInt8.ofNat m]) rfl _ _ rfl rfl HO1.out rfl HR.out (by omega) HB1.out.size ?_; intro A3 c3 w3 hown3 hg3 _; have HO3 := Lib.hid hown3; have HB3 : Hid (Below w.heap.size w w3) := HB1.out.grown hg3 HB1.out.size (fun i hi => (HO1.out.lt i hi).1); clear hown3 hg3)
        go_ret
        have e : (digitsF n.toNat).length = bs.length + 1 := by rw [← HD2.out]; simp
        refine ⟨A3, c3, ?_, ?_, HB3.out⟩
        · rw [e]; rfl
        · rw [e, ← HD2.out]; exact HO3.out

/-- The empty row that a copy begins with. -/
theorem own_empty (w : World) : (w.alloc (.cells #[] 5)).ownsRow w.heap.size 5 1 (.slice (some ⟨w.heap.size, 0, none⟩) 0 0) 0 (bytesV []) :=
  ⟨rfl, .inr ⟨w.heap.size, 0, #[], rfl, Nat.le_refl _, heap_alloc_new w _, Nat.zero_le _, by unfold maxLen; omega, rfl, rfl⟩⟩

set_option maxRecDepth 100000 in
set_option maxHeartbeats 1000000 in
theorem clone_any (A : Option Addr) (c g : Nat) (bs : List UInt8) (w : World) (hz : BytesAt w g A bs.length bs) (hn : bs.length ≤ 1099511627776) :
    Calls Tryz.prog 122 #[.slice A bs.length c] w (OwnBytes bs w) := by
  have hq : ∀ w, (binOp .eql 48 (.slice A bs.length c) (.slice none 0 0)).run Tryz.prog w = .ok (.bool A.isNone) w := fun w => Lib.run_eql_slice_nil w 48 5 A bs.length c 0 0 Tryz.underlying48
  have HZ := Lib.hid hz
  clear hz
  rcases A with _ | ad
  · have : bs = [] := by
      rcases Nat.eq_zero_or_pos bs.length with h0 | h0
      · exact List.eq_nil_of_length_eq_zero h0
      · obtain ⟨_, h, _⟩ := HZ.out.2 h0; cases h
    subst this
    simp only [List.length_nil, Option.isNone_none] at hq
    rw [show ([] : List UInt8).length = 0 from rfl]
    go_enter Tryz.func122, Tryz.ntmps122
    go_wp2
    go_ret
    exact ⟨none, 0, rfl, World.ownsRow_nil _ _ _ _, Below.refl _ _⟩
  · have HB1 : Hid (Below w.heap.size w (w.alloc (.cells #[] 5))) := (Below.refl _ _).alloc (Nat.le_refl _) _
    have HO1 : Hid ((w.alloc (.cells #[] 5)).ownsRow w.heap.size 5 1 (.slice (some ⟨w.heap.size, 0, none⟩) 0 0) 0 (bytesV [])) := own_empty w
    have HZ1 : Hid (BytesAt (w.alloc (.cells #[] 5)) g (some ad) bs.length bs) := HZ.out.keep HB1.out
    go_enter Tryz.func122, Tryz.ntmps122
    go_wp2_with (at_builtin; refine wpList_append_bytes (B := w.heap.size) (g := g) (v := .slice (some ⟨w.heap.size, 0, none⟩) 0 0) (n := 0) (zs := []) (A := some ad) (m := bs.length) (c := c) (ys := bs) rfl _ _ rfl rfl HO1.out rfl HZ1.out (by omega) HB1.out.size ?_; intro A3 c3 w3 hown3 hg3 _; have HO3 := Lib.hid hown3; have HB3 : Hid (Below w.heap.size w w3) := HB1.out.grown hg3 HB1.out.size (fun i hi => (HO1.out.lt i hi).1); clear hown3 hg3)
    go_ret
    refine ⟨A3, c3, ?_, ?_, HB3.out⟩
    · rfl
    · have := HO3.out; rw [Nat.zero_add] at this; exact this

/-- A row of the call's own, empty, with room. -/
def EmptyRow (w : World) (e : Ending) (w' : World) : Prop := ∃ A c, e = .returned (.slice A 0 c) ∧ w'.ownsRow w.heap.size 5 1 (.slice A 0 c) 0 (bytesV []) ∧ Below w.heap.size w w'

set_option maxRecDepth 100000 in
set_option maxHeartbeats 1000000 in
theorem grow_nil (n : Nat) (w : World) (hn : n ≤ 1073741824) : Calls Tryz.prog 183 #[.slice none 0 0, .int .i64 n] w (EmptyRow w) := by
  rcases Nat.eq_zero_or_pos n with h0 | h0
  · subst h0
    go_enter Tryz.func183, Tryz.ntmps183
    go_wp2
    go_ret
    exact ⟨none, 0, rfl, World.ownsRow_nil _ _ _ _, Below.refl _ _⟩
  · obtain ⟨i0, hi, hz0, hz1, hz2⟩ := info_parts Tryz.infoB
    have hold : (Builtin.firstCells i0.size 0 (.slice none 0 0)).run Tryz.prog w.drew = .ok (([] : List Value).toArray) w.drew := run_firstCells_none w.drew i0.size 0 0 0
    have hrz : ∀ ty, (Builtin.append_ #[48, 3] ty #[.slice none 0 0, .int .i64 (n : Int)]).run Tryz.prog w =
        .ok (.slice (some ⟨w.heap.size, 0, none⟩) n (grownCap w n 0 5)) (w.drew.alloc (.cells (([] : List Value).toArray ++ Builtin.zeroCells (Value.int .u8 0).cells n ++ Builtin.zeroCells (Value.int .u8 0).cells (grownCap w n 0 5 - n)) 5)) := fun ty => by
      have h := Lib.run_append_grow_zeros (P := Tryz.prog) w 48 3 ty 5 i0 (.int .u8 0) .i64 .i64 Tryz.underlying48 Tryz.underlying3 hi hz0 none 0 0 [] hold n h0 (by omega) (by omega) (by omega) (by rw [hz2]; omega)
        (by rw [Nat.zero_add]; exact growslice_fits h0 (by rw [hz2]; omega))
      rw [Nat.zero_add] at h
      exact h
    have hG := grownCap_ge w n 0 5
    have hGm := grownCap_le_maxLen w n 0 5 (by unfold maxLen; omega)
    have hsz : (([] : List Value).toArray ++ Builtin.zeroCells (Value.int .u8 0).cells n ++ Builtin.zeroCells (Value.int .u8 0).cells (grownCap w n 0 5 - n)).size = grownCap w n 0 5 * 1 := by
      simp only [Array.size_append, size_zeroCells]
      simp [Value.cells]
      omega
    generalize hcs : ([] : List Value).toArray ++ Builtin.zeroCells (Value.int .u8 0).cells n ++ Builtin.zeroCells (Value.int .u8 0).cells (grownCap w n 0 5 - n) = cs at hrz hsz
    generalize hg : grownCap w n 0 5 = G at hrz hsz hG hGm
    clear hcs hg hold
    have HR := Lib.hid hrz
    have HSz := Lib.hid hsz
    clear hrz hsz
    have hp : (0 : Int) < n := by omega
    have hG63 : G ≤ 9223372036854775807 := by unfold maxLen at hGm; omega
    have HO : Hid ((w.drew.alloc (.cells cs 5)).ownsRow w.heap.size 5 1 (.slice (some ⟨w.heap.size, 0, none⟩) 0 G) 0 (bytesV [])) :=
      ⟨rfl, .inr ⟨w.heap.size, G, cs, rfl, Nat.le_refl _, heap_alloc_new w.drew _, Nat.zero_le _, hGm, HSz.out, rfl⟩⟩
    go_enter Tryz.func183, Tryz.ntmps183
    go_wp2_with (at_builtin; refine Lib.wpList_append_run _ rfl _ _ _ _ rfl _ _ rfl rfl _ _ (HR.out _) ?_)
    all_goals
      go_ret
      exact ⟨_, _, rfl, HO.out, (Below.refl _ _).drew.alloc (by simp) _⟩
end Go.Proofs.YtbookbgfipbaoaaGreatDoor.By

/- The library's Concat of bytes; wire.Put and wire.PutText. -/
namespace Go.Proofs.YtbookbgfipbaoaaGreatDoor.By
open Go.RowKit

/-- A part of what is put together: where it lies, its room, its block, its bytes. -/
structure Part where
  A : Option Addr
  c : Nat
  g : Nat
  bs : List UInt8
def allOf (ps : List Part) : List UInt8 := ps.flatMap (·.bs)
theorem allOf_take (ps : List Part) (k : Nat) (h : k < ps.length) : allOf (ps.take (k + 1)) = allOf (ps.take k) ++ ps[k].bs := by
  unfold allOf
  rw [List.take_succ_eq_append_getElem h, List.flatMap_append]
  simp
theorem allOf_le (ps : List Part) (k : Nat) : (allOf (ps.take k)).length ≤ (allOf ps).length := by
  conv => rhs; rw [← List.take_append_drop k ps]
  unfold allOf
  rw [List.flatMap_append, List.length_append]
  omega

set_option maxRecDepth 100000 in
set_option maxHeartbeats 2000000 in
theorem concat_any (G L C : Nat) (ps : List Part) (w : World) (hL : ps.length = L) (hc : ∀ k (h : k < ps.length), w.cell? ⟨G, k, none⟩ = some (.slice ps[k].A ps[k].bs.length ps[k].c)) (hG : G < w.heap.size) (hz : ∀ k (h : k < ps.length), BytesAt w ps[k].g ps[k].A ps[k].bs.length ps[k].bs)
    (hn : (allOf ps).length ≤ 1073741824) (hL1 : L ≤ 1000) (hL0 : 0 < L) :
    Calls Tryz.prog 158 #[.slice (some ⟨G, 0, none⟩) L C] w (OwnBytes (allOf ps) w) := by
  have HC := Lib.hid hc
  have HZ := Lib.hid hz
  have HL := Lib.hid hL
  clear hc hz hL
  go_enter Tryz.func158, Tryz.ntmps158
  go_wp2
  go_loop [3, 11] (fun sz i => ∃ k : Nat, k ≤ L ∧ i = .int .i64 k ∧ sz = .int .i64 ((allOf (ps.take k)).length : Int)) (fun _ i => L - (intOf i).toNat)
  case atStart => exact ⟨0, by omega, rfl, by simp [allOf]⟩
  case round =>
    obtain ⟨k, hk, rfl, rfl⟩ := hrel
    rcases Nat.lt_or_ge k L with hlt | hge
    · have h1 : (k : Int) < L := by omega
      have hkp : k < ps.length := by rw [HL.out]; exact hlt
      have q0 := HC.out k hkp
      have hle := allOf_le ps (k + 1)
      have he : (allOf (ps.take (k + 1))).length = (allOf (ps.take k)).length + ps[k].bs.length := by rw [allOf_take ps k hkp]; simp
      have HE := Lib.hid he
      rw [he] at hle
      clear he
      generalize (allOf (ps.take k)).length = a at *
      generalize hb : ps[k].bs.length = b at *
      generalize ps[k].A = A0 at *
      generalize ps[k].c = c0 at *
      have h2 : ¬ ((a : Int) + b < 0) := by omega
      go_wp2
      go_round
      case rel => exact ⟨k + 1, by omega, by go_num, by rw [HE.out]; go_num⟩
      case measure => simp [intOf]; omega
    · obtain rfl : k = L := by omega
      rw [show ps.take k = ps by rw [← HL.out]; exact List.take_length]
      have h1 : ¬ ((k : Int) < k) := by omega
      go_wp2_with fail
      refine (grow_nil (allOf ps).length _ (by omega)).mono ?_
      rintro e w1 ⟨A1, c1, rfl, hown1, hb1⟩
      have HO1 := Lib.hid hown1
      have HB1 := Lib.hid hb1
      clear hown1 hb1
      go_wp2
      go_loopw [6, 27] (fun ns i wr => ∃ (j : Nat) (A2 : Option Addr) (c2 : Nat), j ≤ k ∧ i = .int .i64 j ∧ ns = .slice A2 (allOf (ps.take j)).length c2 ∧ Hid (wr.ownsRow w.heap.size 5 1 (.slice A2 (allOf (ps.take j)).length c2) (allOf (ps.take j)).length (bytesV (allOf (ps.take j)))) ∧ Hid (Below w.heap.size w wr)) (fun _ i _ => k - (intOf i).toNat)
      case atStart => exact ⟨0, A1, c1, by omega, rfl, rfl, HO1.out, HB1.out⟩
      case round =>
        obtain ⟨j, A2, c2, hj, rfl, rfl, HO2, HB2⟩ := hrel
        rcases Nat.lt_or_ge j k with hlt | hge
        · have h3 : (j : Int) < k := by omega
          have hjp : j < ps.length := by rw [HL.out]; exact hlt
          have r0 : wr.cell? ⟨G, j, none⟩ = some (.slice ps[j].A ps[j].bs.length ps[j].c) := (HB2.out.cell (p := ⟨G, j, none⟩) hG).trans (HC.out j hjp)
          have HZj : Hid (BytesAt wr ps[j].g ps[j].A ps[j].bs.length ps[j].bs) := (HZ.out j hjp).keep HB2.out
          have HE := Lib.hid (allOf_take ps j hjp)
          have hle := allOf_le ps (j + 1)
          rw [HE.out, List.length_append] at hle
          generalize allOf (ps.take j) = bs at *
          generalize ps[j] = pj at *
          obtain ⟨A0, c0, g0, b0⟩ := pj
          simp only at r0 HZj HE hle
          go_wp2_with (at_builtin; refine wpList_append_bytes (w := wr) (B := w.heap.size) (g := g0) (v := .slice A2 bs.length c2) (n := bs.length) (zs := bs) (A := A0) (m := b0.length) (c := c0) (ys := b0) rfl _ _ rfl rfl HO2.out rfl HZj.out (by omega) HB2.out.size ?_; intro A3 c3 w3 hown3 hg3 _; have HO3 := Lib.hid hown3; have HB3 : Hid (Below w.heap.size w w3) := HB2.out.grown hg3 HB2.out.size (fun i hi => (HO2.out.lt i hi).1); clear hown3 hg3)
          go_roundw
          case rel =>
            refine ⟨j + 1, A3, c3, by omega, by go_num, ?_, ?_, HB3⟩
            · rw [HE.out]; simp
            · rw [HE.out]; simpa [Hid] using HO3.out
          case measure => simp [intOf]; omega
        · obtain rfl : j = k := by omega
          rw [show ps.take j = ps by rw [← HL.out]; exact List.take_length] at HO2
          rw [show ps.take j = ps by rw [← HL.out]; exact List.take_length]
          go_wp2
          go_ret
          exact ⟨A2, c2, rfl, HO2.out, HB2.out⟩

/-- Two slices side by side, as a call with two more arguments lays them. -/
theorem two_parts {w : World} {G : Nat} {e : TypeId} {fr : Nat × Nat} {v0 v1 : Value} (h : w.heap[G]? = some (.cells #[v0, v1] e fr)) : w.cell? ⟨G, 0, none⟩ = some v0 ∧ w.cell? ⟨G, 1, none⟩ = some v1 :=
  ⟨by have := cell_of_row w G 0 _ _ _ h; simpa using this, by have := cell_of_row w G 1 _ _ _ h; simpa using this⟩
theorem three_parts {w : World} {G : Nat} {e : TypeId} {fr : Nat × Nat} {v0 v1 v2 : Value} (h : w.heap[G]? = some (.cells #[v0, v1, v2] e fr)) : w.cell? ⟨G, 0, none⟩ = some v0 ∧ w.cell? ⟨G, 1, none⟩ = some v1 ∧ w.cell? ⟨G, 2, none⟩ = some v2 :=
  ⟨by have := cell_of_row w G 0 _ _ _ h; simpa using this, by have := cell_of_row w G 1 _ _ _ h; simpa using this, by have := cell_of_row w G 2 _ _ _ h; simpa using this⟩

theorem concat_two (G g0 g1 c0 c1 : Nat) (A0 A1 : Option Addr) (b0 b1 : List UInt8) (e : TypeId) (fr : Nat × Nat) (w : World) (h : w.heap[G]? = some (.cells #[.slice A0 b0.length c0, .slice A1 b1.length c1] e fr)) (hG : G < w.heap.size) (z0 : BytesAt w g0 A0 b0.length b0) (z1 : BytesAt w g1 A1 b1.length b1)
    (hn : b0.length + b1.length ≤ 1073741824) : Calls Tryz.prog 158 #[.slice (some ⟨G, 0, none⟩) 2 2] w (OwnBytes (b0 ++ b1) w) := by
  have H := concat_any G 2 2 [⟨A0, c0, g0, b0⟩, ⟨A1, c1, g1, b1⟩] w rfl (fun k hk => by
      match k, hk with
      | 0, _ => exact (two_parts h).1
      | 1, _ => exact (two_parts h).2) hG (fun k hk => by
      match k, hk with
      | 0, _ => exact z0
      | 1, _ => exact z1) (by simpa [allOf] using hn) (by omega) (by omega)
  simpa [allOf] using H
theorem concat_three (G g0 g1 g2 c0 c1 c2 n2 : Nat) (A0 A1 A2 : Option Addr) (b0 b1 b2 : List UInt8) (e : TypeId) (fr : Nat × Nat) (w : World) (h : w.heap[G]? = some (.cells #[.slice A0 b0.length c0, .slice A1 b1.length c1, .slice A2 n2 c2] e fr)) (hG : G < w.heap.size) (z0 : BytesAt w g0 A0 b0.length b0) (z1 : BytesAt w g1 A1 b1.length b1) (z2 : BytesAt w g2 A2 n2 b2)
    (hn : b0.length + (b1.length + n2) ≤ 1073741824) : Calls Tryz.prog 158 #[.slice (some ⟨G, 0, none⟩) 3 3] w (OwnBytes (b0 ++ (b1 ++ b2)) w) := by
  have hn2 := z2.1
  subst hn2
  have H := concat_any G 3 3 [⟨A0, c0, g0, b0⟩, ⟨A1, c1, g1, b1⟩, ⟨A2, c2, g2, b2⟩] w rfl (fun k hk => by
      match k, hk with
      | 0, _ => exact (three_parts h).1
      | 1, _ => exact (three_parts h).2.1
      | 2, _ => exact (three_parts h).2.2) hG (fun k hk => by
      match k, hk with
      | 0, _ => exact z0
      | 1, _ => exact z1
      | 2, _ => exact z2) (by simpa [allOf] using hn) (by omega) (by omega)
  simpa [allOf] using H

theorem digits_le (n : Int) (hn : n ≤ 9223372036854775807) : (digitsF n.toNat).length ≤ 9 := digitsF_len 8 n.toNat (by rw [show (128 : Nat) ^ (8 + 1) = 9223372036854775808 by decide]; omega)

set_option maxRecDepth 100000 in
set_option maxHeartbeats 1000000 in
theorem put_any (A : Option Addr) (c g : Nat) (bs : List UInt8) (n : Int) (w : World) (hz : BytesAt w g A bs.length bs) (hl : bs.length ≤ 1000000000) (hn : n ≤ 9223372036854775807) :
    Calls Tryz.prog 109 #[.slice A bs.length c, .int .i64 n] w (OwnBytes (bs ++ digitsF n.toNat) w) := by
  have HZ := Lib.hid hz
  clear hz
  go_enter Tryz.func109, Tryz.ntmps109
  go_wp2_with fail
  refine (digits_any n _ hn).mono ?_
  have hd := digits_le n hn
  generalize digitsF n.toNat = ds at *
  rintro e w1 ⟨A1, c1, rfl, hown1, hb1⟩
  obtain ⟨g1, hz1, _, _, _⟩ := own_bytes hown1
  have HZ0 : Hid (BytesAt w1 g A bs.length bs) := HZ.out.keep hb1
  have HZ1 := Lib.hid hz1
  have HB1 := Lib.hid hb1
  clear hown1 hz1 hb1
  go_wp2_with fail
  refine (concat_two w1.heap.size g g1 c c1 A A1 bs ds 48 (0, 0) _ (heap_alloc_new w1 _) (by simp) (HZ0.out.keep ((Below.refl _ _).alloc (Nat.le_refl _) _)) (HZ1.out.keep ((Below.refl _ _).alloc (Nat.le_refl _) _)) (by omega)).mono ?_
  rintro e w2 ⟨A2, c2, rfl, hown2, hb2⟩
  have HB2 : Hid (Below w.heap.size w w2) := (HB1.out.alloc HB1.out.size _).trans (hb2.mono (by have := HB1.out.size; simp; omega))
  have HO2 : Hid (w2.ownsRow w.heap.size 5 1 (.slice A2 (bs ++ ds).length c2) (bs ++ ds).length (bytesV (bs ++ ds))) := own_base hown2 (by have := HB1.out.size; simp; omega)
  clear hown2 hb2
  generalize bs ++ ds = zs at *
  go_wp2
  go_ret
  exact ⟨A2, c2, rfl, HO2.out, HB2.out⟩

set_option maxRecDepth 100000 in
set_option maxHeartbeats 1000000 in
theorem putText_any (A : Option Addr) (c g : Nat) (bs : List UInt8) (s : ByteArray) (w : World) (hz : BytesAt w g A bs.length bs) (hl : bs.length ≤ 500000000) (hn : s.size ≤ 500000000) :
    Calls Tryz.prog 111 #[.slice A bs.length c, .string s] w (OwnBytes (bs ++ (digitsF s.size ++ s.data.toList)) w) := by
  have HZ := Lib.hid hz
  clear hz
  have hcv : ∀ w, (convert 9 48 (.string s)).run Tryz.prog w = .ok (.slice (some ⟨w.heap.size, 0, none⟩) s.size (grownCap w s.size 0 5)) (Lib.bytesWorld w 5 s) := fun w => Lib.run_convert_string_bytes w 9 48 5 s Tryz.underlying9 Tryz.underlying48 Tryz.underlying5
  go_enter Tryz.func111, Tryz.ntmps111
  go_wp2_with fail
  refine (digits_any s.size _ (by omega)).mono ?_
  have hd := digits_le s.size (by omega)
  rw [Int.toNat_natCast] at *
  generalize digitsF s.size = ds at *
  rintro e w1 ⟨A1, c1, rfl, hown1, hb1⟩
  obtain ⟨g1, hz1, _, _, _⟩ := own_bytes hown1
  have HZ0 : Hid (BytesAt w1 g A bs.length bs) := HZ.out.keep hb1
  have HZ1 := Lib.hid hz1
  have HB1 := Lib.hid hb1
  clear hown1 hz1 hb1
  have HZ2 := Lib.hid (text_row w1 s)
  have hT := text_below w1 s
  replace HZ0 : Hid (BytesAt (Lib.bytesWorld w1 5 s) g A bs.length bs) := HZ0.out.keep hT
  replace HZ1 : Hid (BytesAt (Lib.bytesWorld w1 5 s) g1 A1 ds.length ds) := HZ1.out.keep hT
  have HB1' : Hid (Below w.heap.size w (Lib.bytesWorld w1 5 s)) := HB1.out.trans (hT.mono HB1.out.size)
  have hsz := Lib.bytesWorld_size w1 5 s
  have HSZ := Lib.hid hsz
  clear hT hsz
  go_wp2_with fail
  refine (concat_three (Lib.bytesWorld w1 5 s).heap.size g g1 w1.heap.size c c1 _ s.size A A1 _ bs ds s.data.toList 48 (0, 0) _ (heap_alloc_new _ _) (by simp) (HZ0.out.keep ((Below.refl _ _).alloc (Nat.le_refl _) _)) (HZ1.out.keep ((Below.refl _ _).alloc (Nat.le_refl _) _)) (HZ2.out.keep ((Below.refl _ _).alloc (Nat.le_refl _) _)) (by omega)).mono ?_
  generalize bs ++ (ds ++ s.data.toList) = zs at *
  rintro e w2 ⟨A2, c2, rfl, hown2, hb2⟩
  have HB2 : Hid (Below w.heap.size w w2) := (HB1'.out.alloc HB1'.out.size _).trans (hb2.mono (by have := HB1'.out.size; simp; omega))
  have HO2 : Hid (w2.ownsRow w.heap.size 5 1 (.slice A2 zs.length c2) zs.length (bytesV zs)) := own_base hown2 (by have := HB1'.out.size; simp; omega)
  clear hown2 hb2
  go_wp2
  go_ret
  exact ⟨A2, c2, rfl, HO2.out, HB2.out⟩
end Go.Proofs.YtbookbgfipbaoaaGreatDoor.By
