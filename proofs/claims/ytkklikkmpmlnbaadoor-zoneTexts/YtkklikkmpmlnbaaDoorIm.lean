/- The names of layer 1 as lists of bytes: which may be (rightL), and what the order says of them. Plain mathematics. -/
import Derived.Lib.Bytealg
import Derived.Lib.Strings
namespace Go.Proofs.YtkklikkmpmlnbaaDoor

/-- The byte at a place, 0 beyond the end. -/
def at8 (l : List UInt8) (j : Nat) : Nat := (l.getD j 0).toNat
/-- May the text be a name? -/
def rightL (l : List UInt8) : Bool := decide (1 ≤ l.length ∧ l.length ≤ 6 ∧ at8 l 0 = 48) && (List.range l.length).all (fun j => j == 0 || (decide (49 ≤ at8 l j) && decide (at8 l j ≤ 57)))

theorem rightL_iff (l : List UInt8) : rightL l = true ↔ (1 ≤ l.length ∧ l.length ≤ 6 ∧ at8 l 0 = 48) ∧ ∀ j, 1 ≤ j → j < l.length → 49 ≤ at8 l j ∧ at8 l j ≤ 57 := by
  unfold rightL
  rw [Bool.and_eq_true, decide_eq_true_iff, List.all_eq_true]
  refine and_congr Iff.rfl ⟨fun h j h1 h2 => ?_, fun h j hj => ?_⟩
  · have := h j (List.mem_range.mpr h2)
    simp at this
    omega
  · have hj' := List.mem_range.mp hj
    by_cases h0 : j = 0
    · simp [h0]
    · have := h j (by omega) hj'
      simp [this]

theorem right_true {l : List UInt8} (h1 : 1 ≤ l.length) (h2 : l.length ≤ 6) (h3 : at8 l 0 = 48) (h4 : ∀ j, 1 ≤ j → j < l.length → 49 ≤ at8 l j ∧ at8 l j ≤ 57) : rightL l = true := (rightL_iff l).mpr ⟨⟨h1, h2, h3⟩, h4⟩
theorem right_long {l : List UInt8} (h : 6 < l.length) : rightL l = false := by
  rw [Bool.eq_false_iff]; intro e; have := (rightL_iff l).mp e; omega
theorem right_nil {l : List UInt8} (h : l.length < 1) : rightL l = false := by
  rw [Bool.eq_false_iff]; intro e; have := (rightL_iff l).mp e; omega
theorem right_head {l : List UInt8} (h : at8 l 0 ≠ 48) : rightL l = false := by
  rw [Bool.eq_false_iff]; intro e; have := (rightL_iff l).mp e; omega
theorem right_low {l : List UInt8} (j : Nat) (h1 : 1 ≤ j) (h2 : j < l.length) (h : at8 l j < 49) : rightL l = false := by
  rw [Bool.eq_false_iff]; intro e; have := ((rightL_iff l).mp e).2 j h1 h2; omega
theorem right_high {l : List UInt8} (j : Nat) (h1 : 1 ≤ j) (h2 : j < l.length) (h : 57 < at8 l j) : rightL l = false := by
  rw [Bool.eq_false_iff]; intro e; have := ((rightL_iff l).mp e).2 j h1 h2; omega

theorem at8_lt (s : ByteArray) (k : Nat) (h : k < s.size) : at8 s.data.toList k = s[k].toNat := by
  unfold at8
  have hl : k < s.data.toList.length := by simpa using h
  rw [List.getD_eq_getElem?_getD, List.getElem?_eq_getElem hl]
  rfl

/-- Is the text's first byte 0? -/
theorem hasPrefix_zero (l : List UInt8) : Lib.hasPrefix l [48] = (decide (1 ≤ l.length) && decide (at8 l 0 = 48)) := by
  cases l with
  | nil => simp [Lib.hasPrefix]
  | cons c r =>
    simp only [Lib.hasPrefix, List.isPrefixOf, Bool.and_true]
    have : at8 (c :: r) 0 = c.toNat := rfl
    rw [this, Bool.eq_iff_iff]
    simp
    constructor
    · intro e; rw [← e]; rfl
    · intro e; exact (UInt8.toNat_inj.mp (by simpa using e)).symm
end Go.Proofs.YtkklikkmpmlnbaaDoor
