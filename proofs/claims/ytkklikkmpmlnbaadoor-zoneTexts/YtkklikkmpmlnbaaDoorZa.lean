/- Steps of a zone: their numbers; what a step takes; products of places. -/
import Derived.Test.YtkklikkmpmlnbaaDoorFz
import Derived.Test.YtkklikkmpmlnbaaDoorGb
import Derived.Laws.StructEq
import Derived.BigRegion
namespace Go.Proofs.YtkklikkmpmlnbaaDoor
open Go.RowKit

/-- A step as the program has it: its numbers' words. -/
structure Stp where
  op : Int
  re : Nat
  im : Nat
  sz : Nat
/-- A step as the document's answer has it. -/
structure RSt where
  op : Int
  x : Int
  y : Int
  sz : Int
deriving DecidableEq
def Small (n : Int) : Prop := n.natAbs < 2 ^ 41
/-- The word stands for a number that is greater, or less, than all small ones. -/
def Big (x : Nat) : Prop := (∀ lo hi a b, Num lo a → Num hi b → Small a → Small b → wwB x lo hi = false) ∧ eqlB x 0 = false
/-- The word stands for n, or n isn't small, and the word isn't, either. -/
def NumB (x : Nat) (n : Int) : Prop := (Small n ∧ Num x n) ∨ (¬ Small n ∧ Big x)
theorem NumB.num {x : Nat} {n : Int} (h : NumB x n) (hs : Small n) : Num x n := by
  rcases h with ⟨_, h⟩ | ⟨h, _⟩
  · exact h
  · exact absurd hs h
/-- The one says what the other one says. -/
structure Like (s : Stp) (r : RSt) : Prop where
  op : s.op = r.op
  re : NumB s.re r.x
  im : NumB s.im r.y
  sz : NumB s.sz r.sz
theorem Small.lt {n : Int} (h : Small n) : n.natAbs < 2 ^ 53 := Nat.lt_of_lt_of_le h (by decide)
theorem num_zero : Num 0 0 := by
  have := num_fl 0 (by decide)
  rwa [show fl 0 = 0 by decide] at this
theorem small_zero : Small 0 := by unfold Small; decide
theorem ww_numB {x lo hi : Nat} {n a b : Int} (hx : NumB x n) (hl : Num lo a) (hh : Num hi b) (ha : Small a) (hb : Small b) : wwB x lo hi = withinF n a b := by
  rcases hx with ⟨h1, h2⟩ | ⟨h1, h2⟩
  · exact ww_num h2 h1.lt hl hh
  · rw [h2.1 lo hi a b hl hh ha hb]
    unfold withinF Small at *
    symm
    rw [Bool.and_eq_false_iff, decide_eq_false_iff_not, decide_eq_false_iff_not]
    omega
theorem eql_numB {x : Nat} {n : Int} (hx : NumB x n) : eqlB x 0 = decide (n = 0) := by
  rcases hx with ⟨h1, h2⟩ | ⟨h1, h2⟩
  · exact num_eql h2 num_zero
  · rw [h2.2]
    symm
    rw [decide_eq_false_iff_not]
    rintro rfl
    exact h1 small_zero
theorem whole_numB {x y : Nat} {a b : Int} (hx : NumB x a) (hy : NumB y b) : wholeB x y = wholeF a b := by
  unfold wholeB wholeF
  rw [ww_numB hx num_lo num_hi (by unfold Small; decide) (by unfold Small; decide), ww_numB hy num_lo num_hi (by unfold Small; decide) (by unfold Small; decide)]
def stpV (s : Stp) : Value := .agg #[.int .i64 s.op, .complex .f64 s.re s.im, .float .f64 s.sz]
def takesF (op : Int) : Int := if op = 4 then 1 else if op = 5 ∨ op = 6 then 2 else 0

set_option maxRecDepth 100000 in
set_option maxHeartbeats 1000000 in
theorem takes_any (op : Int) (w : World) : Calls Tryd.prog 37 #[.int .i64 op] w fun e w' => e = .returned (.int .i64 (takesF op)) ∧ w = w' := by
  by_cases h4 : op = 4
  · subst h4
    go_enter Tryd.func37, Tryd.ntmps37
    go_wp2
    go_ret
    exact ⟨rfl, rfl⟩
  by_cases h5 : op = 5
  · subst h5
    go_enter Tryd.func37, Tryd.ntmps37
    go_wp2
    go_ret
    exact ⟨rfl, rfl⟩
  by_cases h6 : op = 6
  · subst h6
    go_enter Tryd.func37, Tryd.ntmps37
    go_wp2
    go_ret
    exact ⟨rfl, rfl⟩
  have HT : Hid (takesF op = 0) := by show _ = _; simp [takesF, h4, h5, h6]
  go_enter Tryd.func37, Tryd.ntmps37
  go_wp2
  go_ret
  exact ⟨ret_int HT.out.symm, rfl⟩

set_option maxRecDepth 100000 in
set_option maxHeartbeats 1000000 in
theorem neg_float (k : FloatKind) (x : Nat) : Op.unary .neg (.float k x) = pure (.float k (Op.negFloat k x)) := rfl
theorem neg_complex (k : FloatKind) (x y : Nat) : Op.unary .neg (.complex k x y) = pure (.complex k (Op.negFloat k x) (Op.negFloat k y)) := rfl
set_option maxRecDepth 100000 in
set_option maxHeartbeats 1000000 in
theorem conj_any (x y : Nat) (w : World) : Calls Tryd.prog 62 #[.complex .f64 x y] w fun e w' => e = .returned (.complex .f64 x (Op.negFloat .f64 y)) ∧ w = w' := by
  have hn := neg_float
  go_enter Tryd.func62, Tryd.ntmps62
  go_wp2
  go_ret
  exact ⟨rfl, rfl⟩

set_option maxRecDepth 100000 in
set_option maxHeartbeats 1000000 in
theorem product_any (a b c d : Nat) (re im : Nat) (h : cMulBits a b c (Op.negFloat .f64 d) = some (re, im)) (w : World) :
    Calls Tryd.prog 53 #[.complex .f64 a b, .complex .f64 c d] w fun e w' => e = .returned (.float .f64 re) ∧ w = w' := by
  have HC := Lib.hid (conj_any c d)
  have hm := fun w => run_complex_mul (P := Tryd.prog) w 41 a b c (Op.negFloat .f64 d) re im h
  generalize Op.negFloat .f64 d = nd at *
  clear h
  go_enter Tryd.func53, Tryd.ntmps53
  go_wp2_with fail
  refine (HC.out _).mono ?_
  rintro e w1 ⟨rfl, rfl⟩
  go_wp2
  go_ret
  exact ⟨rfl, rfl⟩

/-- The product's real part, of whole numbers. -/
theorem product_num {a b c d : Nat} {p q r s : Int} (ha : Num a p) (hb : Num b q) (hc : Num c r) (hd : Num d s) (h1 : p.natAbs < 2 ^ 22) (h2 : q.natAbs < 2 ^ 22) (h3 : r.natAbs < 2 ^ 22) (h4 : s.natAbs < 2 ^ 22) :
    ∃ re im, cMulBits a b c (Op.negFloat .f64 d) = some (re, im) ∧ Num re (p * r + q * s) := by
  have hb' : ∀ {u v : Int}, u.natAbs < 2 ^ 22 → v.natAbs < 2 ^ 22 → (u * v).natAbs < 2 ^ 44 := fun {u v} hu hv => by
    rw [Int.natAbs_mul]
    calc u.natAbs * v.natAbs ≤ 2 ^ 22 * v.natAbs := Nat.mul_le_mul_right _ (Nat.le_of_lt hu)
      _ < 2 ^ 22 * 2 ^ 22 := Nat.mul_lt_mul_of_pos_left hv (by decide)
      _ = 2 ^ 44 := by decide
  have hn := num_neg hd
  have h4' : (-s).natAbs < 2 ^ 22 := by rw [Int.natAbs_neg]; exact h4
  obtain ⟨ac, e1, n1⟩ := num_mul ha hc (by have := hb' h1 h3; omega)
  obtain ⟨bd, e2, n2⟩ := num_mul hb hn (by have := hb' h2 h4'; omega)
  obtain ⟨re, e3, n3⟩ := num_sub n1 n2 (by have := hb' h1 h3; have := hb' h2 h4'; omega)
  obtain ⟨ad, e4, n4⟩ := num_mul ha hn (by have := hb' h1 h4'; omega)
  obtain ⟨bc, e5, n5⟩ := num_mul hb hc (by have := hb' h2 h3; omega)
  obtain ⟨im, e6, n6⟩ := num_add n4 n5 (by have := hb' h1 h4'; have := hb' h2 h3; omega)
  refine ⟨re, im, ?_, ?_⟩
  · unfold cMulBits
    simp [e1, e2, e3, e4, e5, e6]
  · rwa [Int.mul_neg, Int.sub_neg] at n3
end Go.Proofs.YtkklikkmpmlnbaaDoor
