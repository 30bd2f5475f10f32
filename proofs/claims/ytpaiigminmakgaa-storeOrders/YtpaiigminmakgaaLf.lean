/- zone.Whole of a place whose parts are whole numbers. -/
import Derived.Test.YtpaiigminmakgaaFm
import Derived.Test.YtpaiigminmakgaaIa
import Derived.Deep.RegionHeld3
import Derived.Lib.SliceRun
import Derived.Deep.RegionLaw
import Derived.Maps.AppendAt
namespace Go.Proofs.Ytpaiigminmakgaa
open Go.RowKit

theorem trunc_fl (n : Int) (h : n.natAbs < 2 ^ 53) : FloatKind.f64.encode ((FloatKind.f64.decode (fl n)).integral .zero) = fl n := by
  obtain ⟨s, e, hs⟩ := integral_num (read_fl n h)
  show Ieee.double.write ((Ieee.double.read (fl n)).integral .zero) = fl n
  by_cases h0 : n = 0
  · subst h0
    decide
  · rw [e, hs h0]; rfl
theorem trunc_aux (x : Nat) (s : Bool) (m : Nat) (e : Int) (hd : FloatKind.f64.decode x = .number s m e) : Extern.MathFloor.toIntegral "math.archTrunc" .zero #[.float .f64 x] = pure (.float .f64 (FloatKind.f64.encode ((Ieee.Datum.number s m e).integral .zero))) := by
  obtain ⟨f, hf⟩ : ∃ f : Bool → Nat → Sem Value, Extern.MathFloor.toIntegral "math.archTrunc" .zero #[.float .f64 x] = (match FloatKind.f64.decode x with | .nan s t => f s t | d => pure (.float .f64 (FloatKind.f64.encode (d.integral .zero)))) := ⟨_, rfl⟩
  rw [hf, hd]
theorem run_trunc (n : Int) (h : n.natAbs < 2 ^ 53) (w : World) : (Extern.MathFloor.toIntegral "math.archTrunc" .zero #[.float .f64 (fl n)]).run Try.prog w = .ok (.float .f64 (fl n)) w := by
  have ht := trunc_fl n h
  obtain ⟨s, j, e, _⟩ := read_fl n h
  have e' : FloatKind.f64.decode (fl n) = .number s (n.natAbs * 2 ^ j) (-(j : Int)) := e
  rw [e'] at ht
  rw [trunc_aux _ _ _ _ e', ht]
  rfl
/-- How two floats of whole numbers stand. -/
theorem order_fl (a b : Int) (ha : a.natAbs < 2 ^ 53) (hb : b.natAbs < 2 ^ 53) : FloatKind.f64.format.order (fl a) (fl b) = some (compare a b) := order_num (read_fl a ha) (read_fl b hb)
theorem fl_lo : (13875379345695965184 : Nat) = fl (-1000) := by decide
theorem fl_hi : (4652007308841189376 : Nat) = fl 1000 := by decide
theorem leq_fl (a b : Int) (ha : a.natAbs < 2 ^ 53) (hb : b.natAbs < 2 ^ 53) : (FloatKind.f64.format.order (fl a) (fl b) == some .lt || FloatKind.f64.format.order (fl a) (fl b) == some .eq) = decide (a ≤ b) := by
  rw [order_fl a b ha hb]
  rcases Int.lt_trichotomy a b with h | h | h
  · rw [Int.compare_eq_lt.mpr h]; simp; omega
  · subst h; simp
  · rw [Int.compare_eq_gt.mpr h]; simp; omega
theorem eql_fl (a b : Int) (ha : a.natAbs < 2 ^ 53) (hb : b.natAbs < 2 ^ 53) : (FloatKind.f64.format.order (fl a) (fl b) == some .eq) = decide (a = b) := by
  rw [order_fl a b ha hb]
  rcases Int.lt_trichotomy a b with h | h | h
  · rw [Int.compare_eq_lt.mpr h]; simp; omega
  · subst h; simp
  · rw [Int.compare_eq_gt.mpr h]; simp; omega

set_option maxRecDepth 100000 in
set_option maxHeartbeats 1000000 in
theorem trunc_any (n : Int) (h : n.natAbs < 2 ^ 53) (w : World) : Calls Try.prog 85 #[.float .f64 (fl n)] w fun e w' => e = .returned (.float .f64 (fl n)) ∧ w = w' := by
  have HR := Lib.hid (run_trunc n h)
  generalize fl n = x at *
  go_enter Try.func85, Try.ntmps85
  go_wp2
  rw [run_callFunc_extern Try.func92 (by kernel_rfl) (by kernel_rfl) (by kernel_rfl) (e := Extern.MathFloor.toIntegral "math.archTrunc" .zero) (by kernel_rfl), HR.out]
  simp only [Result.andThen]
  rw [Oper.upon_value]
  go_wp2
  go_ret
  exact ⟨rfl, rfl⟩

def withinF (n lo hi : Int) : Bool := decide (lo ≤ n) && decide (n ≤ hi)

set_option maxRecDepth 100000 in
set_option maxHeartbeats 1000000 in
theorem wholeWithin_any (n lo hi : Int) (hn : n.natAbs < 2 ^ 53) (hl : lo.natAbs < 2 ^ 53) (hh : hi.natAbs < 2 ^ 53) (w : World) :
    Calls Try.prog 75 #[.float .f64 (fl n), .float .f64 (fl lo), .float .f64 (fl hi)] w fun e w' => e = .returned (.bool (withinF n lo hi)) ∧ w = w' := by
  have h1 := leq_fl lo n hl hn
  have h2 := leq_fl n hi hn hh
  have h3 := eql_fl n n hn hn
  have HT := Lib.hid (trunc_any n hn)
  have HW := Lib.hid (show withinF n lo hi = (decide (lo ≤ n) && decide (n ≤ hi)) from rfl)
  generalize fl n = x at *
  generalize fl lo = l at *
  generalize fl hi = u at *
  by_cases c1 : lo ≤ n
  · rw [decide_eq_true c1] at h1 HW
    by_cases c2 : n ≤ hi
    · rw [decide_eq_true c2] at h2 HW
      rw [show decide (n = n) = true by simp] at h3
      clear c1 c2
      go_enter Try.func75, Try.ntmps75
      go_wp2_with fail
      refine (HT.out _).mono ?_
      rintro e w1 ⟨rfl, rfl⟩
      go_wp2
      go_ret
      exact ⟨ret_bool (by rw [HW.out]; rfl), rfl⟩
    · rw [decide_eq_false c2] at h2 HW
      clear c1 c2
      go_enter Try.func75, Try.ntmps75
      go_wp2
      go_ret
      exact ⟨ret_bool (by rw [HW.out]; rfl), rfl⟩
  · rw [decide_eq_false c1] at h1 HW
    clear c1
    go_enter Try.func75, Try.ntmps75
    go_wp2
    go_ret
    exact ⟨ret_bool (by rw [HW.out]; rfl), rfl⟩

/-- Is a place one? -/
def wholeF (x y : Int) : Bool := withinF x (-1000) 1000 && withinF y (-1000) 1000

set_option maxRecDepth 100000 in
set_option maxHeartbeats 1000000 in
theorem whole_any (x y : Int) (hx : x.natAbs < 2 ^ 53) (hy : y.natAbs < 2 ^ 53) (w : World) :
    Calls Try.prog 57 #[.complex .f64 (fl x) (fl y)] w fun e w' => e = .returned (.bool (wholeF x y)) ∧ w = w' := by
  have H1 := Lib.hid (wholeWithin_any x (-1000) 1000 hx (by decide) (by decide))
  have H2 := Lib.hid (wholeWithin_any y (-1000) 1000 hy (by decide) (by decide))
  rw [← fl_lo, ← fl_hi] at H1 H2
  have HW := Lib.hid (show wholeF x y = (withinF x (-1000) 1000 && withinF y (-1000) 1000) from rfl)
  generalize fl x = fx at *
  generalize fl y = fy at *
  generalize withinF x (-1000) 1000 = b1 at *
  generalize withinF y (-1000) 1000 = b2 at *
  go_enter Try.func57, Try.ntmps57
  go_wp2_with fail
  refine (H1.out _).mono ?_
  rintro e w1 ⟨rfl, rfl⟩
  cases b1
  · go_wp2
    go_ret
    exact ⟨ret_bool (by rw [HW.out]; rfl), rfl⟩
  · go_wp2_with fail
    refine (H2.out _).mono ?_
    rintro e w1 ⟨rfl, rfl⟩
    go_wp2
    go_ret
    exact ⟨ret_bool (by rw [HW.out]; rfl), rfl⟩
end Go.Proofs.Ytpaiigminmakgaa
