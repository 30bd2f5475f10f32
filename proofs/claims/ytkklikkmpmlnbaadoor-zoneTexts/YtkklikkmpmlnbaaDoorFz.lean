/- zone.Whole of whatever place: of one whose parts stand for whole numbers, and of any other. -/
import Derived.Test.YtkklikkmpmlnbaaDoorFn
import Derived.Test.YtkklikkmpmlnbaaDoorIa
namespace Go.Proofs.YtkklikkmpmlnbaaDoor
open Go.RowKit

theorem trunc_aux (x : Nat) (s : Bool) (m : Nat) (e : Int) (hd : FloatKind.f64.decode x = .number s m e) : Extern.MathFloor.toIntegral "math.archTrunc" .zero #[.float .f64 x] = pure (.float .f64 (FloatKind.f64.encode ((Ieee.Datum.number s m e).integral .zero))) := by
  obtain ⟨f, hf⟩ : ∃ f : Bool → Nat → Sem Value, Extern.MathFloor.toIntegral "math.archTrunc" .zero #[.float .f64 x] = (match FloatKind.f64.decode x with | .nan s t => f s t | d => pure (.float .f64 (FloatKind.f64.encode (d.integral .zero)))) := ⟨_, rfl⟩
  rw [hf, hd]
/-- The word stands for a number (no infinity, and no NaN). -/
def IsN (x : Nat) : Prop := ∃ s m e, Ieee.double.read x = .number s m e
theorem num_isN {x : Nat} {n : Int} (h : Num x n) : IsN x := by obtain ⟨s, j, e, _⟩ := h; exact ⟨_, _, _, e⟩
theorem run_trunc (x : Nat) (h : IsN x) (w : World) : (Extern.MathFloor.toIntegral "math.archTrunc" .zero #[.float .f64 x]).run Tryd.prog w = .ok (.float .f64 (truncW x)) w := by
  obtain ⟨s, m, e, hd⟩ := h
  have ht : truncW x = FloatKind.f64.encode ((Ieee.Datum.number s m e).integral .zero) := by unfold truncW; rw [hd]; rfl
  have e' : FloatKind.f64.decode x = .number s m e := hd
  rw [trunc_aux _ _ _ _ e', ht]
  rfl
def leqB (x y : Nat) : Bool := FloatKind.f64.format.order x y == some .lt || FloatKind.f64.format.order x y == some .eq
def eqlB (x y : Nat) : Bool := FloatKind.f64.format.order x y == some .eq
def wwB (x lo hi : Nat) : Bool := leqB lo x && (leqB x hi && eqlB x (truncW x))
def withinF (n lo hi : Int) : Bool := decide (lo ≤ n) && decide (n ≤ hi)
theorem isN_of {x lo hi : Nat} (hl : IsN lo) (hh : IsN hi) (h1 : leqB lo x = true) (h2 : leqB x hi = true) : IsN x := by
  obtain ⟨s, m, e, hl⟩ := hl
  obtain ⟨t, n, i, hh⟩ := hh
  have e1 : FloatKind.f64.format.order lo x = (Ieee.Datum.number s m e).order (Ieee.double.read x) := by rw [← hl]; rfl
  have e2 : FloatKind.f64.format.order x hi = (Ieee.double.read x).order (.number t n i) := by rw [← hh]; rfl
  unfold leqB at h1 h2
  rw [e1] at h1
  rw [e2] at h2
  unfold IsN
  cases hr : Ieee.double.read x with
  | number a b c => exact ⟨a, b, c, rfl⟩
  | infinity a => rw [hr] at h1 h2; cases a <;> simp [Ieee.Datum.order] at h1 h2
  | nan a b => rw [hr] at h1; simp [Ieee.Datum.order] at h1
theorem ww_num {x lo hi : Nat} {n a b : Int} (hx : Num x n) (hn : n.natAbs < 2 ^ 53) (hl : Num lo a) (hh : Num hi b) : wwB x lo hi = withinF n a b := by
  unfold wwB leqB eqlB withinF
  rw [num_leq hl hx, num_leq hx hh, num_eql hx (num_trunc hx hn)]
  simp

set_option maxRecDepth 100000 in
set_option maxHeartbeats 1000000 in
theorem trunc_any (x : Nat) (h : IsN x) (w : World) : Calls Tryd.prog 54 #[.float .f64 x] w fun e w' => e = .returned (.float .f64 (truncW x)) ∧ w = w' := by
  have HR := Lib.hid (run_trunc x h)
  generalize truncW x = y at *
  go_enter Tryd.func54, Tryd.ntmps54
  go_wp2
  rw [run_callFunc_extern Tryd.func63 (by kernel_rfl) (by kernel_rfl) (by kernel_rfl) (e := Extern.MathFloor.toIntegral "math.archTrunc" .zero) (by kernel_rfl), HR.out]
  simp only [Result.andThen]
  rw [Oper.upon_value]
  go_wp2
  go_ret
  exact ⟨rfl, rfl⟩

set_option maxRecDepth 100000 in
set_option maxHeartbeats 1000000 in
theorem wholeWithin_any (x lo hi : Nat) (hl : IsN lo) (hh : IsN hi) (w : World) :
    Calls Tryd.prog 42 #[.float .f64 x, .float .f64 lo, .float .f64 hi] w fun e w' => e = .returned (.bool (wwB x lo hi)) ∧ w = w' := by
  have HW := Lib.hid (show wwB x lo hi = (leqB lo x && (leqB x hi && eqlB x (truncW x))) from rfl)
  by_cases c1 : leqB lo x = true
  · have h1 : (FloatKind.f64.format.order lo x == some .lt || FloatKind.f64.format.order lo x == some .eq) = true := c1
    by_cases c2 : leqB x hi = true
    · have h2 : (FloatKind.f64.format.order x hi == some .lt || FloatKind.f64.format.order x hi == some .eq) = true := c2
      have HT := Lib.hid (trunc_any x (isN_of hl hh c1 c2))
      rw [c1, c2] at HW
      have he : eqlB x (truncW x) = (FloatKind.f64.format.order x (truncW x) == some .eq) := rfl
      generalize truncW x = y at *
      clear c1 c2 hl hh
      cases h3 : eqlB x y
      all_goals
        rw [h3] at he HW
        have he' := he.symm
        clear h3 he
        go_enter Tryd.func42, Tryd.ntmps42
        go_wp2_with fail
        refine (HT.out _).mono ?_
        rintro e w1 ⟨rfl, rfl⟩
        go_wp2
        go_ret
        exact ⟨ret_bool (by rw [HW.out]; rfl), rfl⟩
    · have h2 : (FloatKind.f64.format.order x hi == some .lt || FloatKind.f64.format.order x hi == some .eq) = false := by simpa [leqB] using c2
      rw [c1, Bool.eq_false_iff.mpr c2] at HW
      clear c1 c2 hl hh
      go_enter Tryd.func42, Tryd.ntmps42
      go_wp2
      go_ret
      exact ⟨ret_bool (by rw [HW.out]; rfl), rfl⟩
  · have h1 : (FloatKind.f64.format.order lo x == some .lt || FloatKind.f64.format.order lo x == some .eq) = false := by simpa [leqB] using c1
    rw [Bool.eq_false_iff.mpr c1] at HW
    clear c1 hl hh
    go_enter Tryd.func42, Tryd.ntmps42
    go_wp2
    go_ret
    exact ⟨ret_bool (by rw [HW.out]; rfl), rfl⟩

theorem num_lo : Num 13875379345695965184 (-1000) := by
  have := num_fl (-1000) (by decide)
  rwa [show fl (-1000) = 13875379345695965184 by decide] at this
theorem num_hi : Num 4652007308841189376 1000 := by
  have := num_fl 1000 (by decide)
  rwa [show fl 1000 = 4652007308841189376 by decide] at this
/-- Is a place one, of whatever parts? -/
def wholeB (x y : Nat) : Bool := wwB x 13875379345695965184 4652007308841189376 && wwB y 13875379345695965184 4652007308841189376
/-- Is a place one, of whole parts? -/
def wholeF (x y : Int) : Bool := withinF x (-1000) 1000 && withinF y (-1000) 1000
theorem whole_num {x y : Nat} {a b : Int} (hx : Num x a) (ha : a.natAbs < 2 ^ 53) (hy : Num y b) (hb : b.natAbs < 2 ^ 53) : wholeB x y = wholeF a b := by
  unfold wholeB wholeF
  rw [ww_num hx ha num_lo num_hi, ww_num hy hb num_lo num_hi]

set_option maxRecDepth 100000 in
set_option maxHeartbeats 1000000 in
theorem whole_any (x y : Nat) (w : World) : Calls Tryd.prog 26 #[.complex .f64 x y] w fun e w' => e = .returned (.bool (wholeB x y)) ∧ w = w' := by
  have H1 := Lib.hid (wholeWithin_any x 13875379345695965184 4652007308841189376 (num_isN num_lo) (num_isN num_hi))
  have H2 := Lib.hid (wholeWithin_any y 13875379345695965184 4652007308841189376 (num_isN num_lo) (num_isN num_hi))
  have HW := Lib.hid (show wholeB x y = (wwB x 13875379345695965184 4652007308841189376 && wwB y 13875379345695965184 4652007308841189376) from rfl)
  generalize wwB x 13875379345695965184 4652007308841189376 = b1 at *
  generalize wwB y 13875379345695965184 4652007308841189376 = b2 at *
  go_enter Tryd.func26, Tryd.ntmps26
  go_wp2_with fail
  refine (H1.out _).mono ?_
  rintro e w1 ⟨rfl, rfl⟩
  cases b1
  · go_wp2
    go_ret
    exact ⟨ret_bool (by rw [HW.out]; rfl), rfl⟩
  · go_wp2_with fail
    refine (H2.out _).mono ?_
    rintro e w1 ⟨rfl, rfl⟩
    go_wp2
    go_ret
    exact ⟨ret_bool (by rw [HW.out]; rfl), rfl⟩
end Go.Proofs.YtkklikkmpmlnbaaDoor
