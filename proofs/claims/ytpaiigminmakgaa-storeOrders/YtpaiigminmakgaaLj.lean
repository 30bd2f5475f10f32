/- item: what an item is as a value; counts, rightVersion, kindOf, shifted, Right. -/
import Derived.Test.YtpaiigminmakgaaLf
import Derived.Test.YtpaiigminmakgaaIx
namespace Go.Proofs.Ytpaiigminmakgaa
open Go.RowKit

/-- A version. -/
structure Vrs where
  id : ByteArray
  seq : Int
  stamp : Int
/-- An item whose place has whole parts. -/
structure Itm where
  key : Int
  ver : Vrs
  dead : Bool
  x : Int
  y : Int
  text : ByteArray
  held : Bool
def vrsV (v : Vrs) : Value := .agg #[.string v.id, .int .i64 v.seq, .int .i64 v.stamp]
def itmV (i : Itm) : Value := .agg #[.int .i64 i.key, .string i.ver.id, .int .i64 i.ver.seq, .int .i64 i.ver.stamp, .bool i.dead, .complex .f64 (fl i.x) (fl i.y), .string i.text, .bool i.held]

def countsF (n : Int) : Bool := decide (1 ≤ n) && decide (n ≤ 1048576)
def rightV (v : Vrs) : Bool := rightL v.id.data.toList && (countsF v.seq && countsF v.stamp)
def kindF (i : Itm) : Int := if i.dead then 0 else if i.held then 2 else 1

set_option maxRecDepth 100000 in
theorem counts_any (n : Int) (w : World) : Calls Try.prog 74 #[.int .i64 n] w fun e w' => e = .returned (.bool (countsF n)) ∧ w = w' := by
  have HC := Lib.hid (show countsF n = (decide (1 ≤ n) && decide (n ≤ 1048576)) from rfl)
  by_cases h : 1 ≤ n
  · rw [decide_eq_true h] at HC
    go_enter Try.func74, Try.ntmps74
    go_wp2
    go_ret
    exact ⟨ret_bool (by rw [HC.out]; rfl), rfl⟩
  · rw [decide_eq_false h] at HC
    have h' : decide (1 ≤ n) = false := by simpa using h
    go_enter Try.func74, Try.ntmps74
    go_wp2
    go_ret
    exact ⟨ret_bool (by rw [HC.out]; rfl), rfl⟩

set_option maxRecDepth 100000 in
set_option maxHeartbeats 1000000 in
theorem rightVersion_any (v : Vrs) (w : World) : Calls Try.prog 56 #[vrsV v] w fun e w' => e = .returned (.bool (rightV v)) ∧ Below w.heap.size w w' := by
  obtain ⟨d, a, s⟩ := v
  have HC := Lib.hid (show rightV ⟨d, a, s⟩ = (rightL d.data.toList && (countsF a && countsF s)) from rfl)
  have H1 := Lib.hid (counts_any a)
  have H2 := Lib.hid (counts_any s)
  have H3 := Lib.hid (right_any d)
  generalize rightL d.data.toList = b1 at *
  generalize countsF a = b2 at *
  generalize countsF s = b3 at *
  unfold vrsV
  go_enter Try.func56, Try.ntmps56
  go_wp2_with fail
  refine (H3.out _).mono ?_
  rintro e w1 ⟨rfl, rfl⟩
  cases b1
  · go_wp2
    go_ret
    exact ⟨ret_bool (by rw [HC.out]; rfl), (Below.refl _ _).alloc (Nat.le_refl _) _⟩
  · go_wp2_with fail
    refine (H1.out _).mono ?_
    rintro e w1 ⟨rfl, rfl⟩
    cases b2
    · go_wp2
      go_ret
      exact ⟨ret_bool (by rw [HC.out]; rfl), (Below.refl _ _).alloc (Nat.le_refl _) _⟩
    · go_wp2_with fail
      refine (H2.out _).mono ?_
      rintro e w1 ⟨rfl, rfl⟩
      go_wp2
      go_ret
      exact ⟨ret_bool (by rw [HC.out]; rfl), (Below.refl _ _).alloc (Nat.le_refl _) _⟩


theorem int_fl (n : Int) (h : n.natAbs < 2 ^ 53) : floatToIntVal .f64 (fl n) .i64 = some n := by
  unfold floatToIntVal
  have : (FloatKind.f64.decode (fl n)).toInt .zero = some n := toInt_num (read_fl n h)
  rw [this]
  simp only
  rw [if_pos]
  have e1 : IntKind.i64.min = -9223372036854775808 := rfl
  have e2 : IntKind.i64.max = 9223372036854775807 := rfl
  omega


theorem empty_size (s : ByteArray) : s.toList.isEmpty = decide (s.size = 0) := by
  rw [Lib.toList_data]
  have hl : s.data.toList.length = s.size := by simp
  rw [← hl]
  cases s.data.toList <;> simp
/-- May it be? -/
def rightI (i : Itm) : Bool := decide (0 ≤ i.key) && (decide (i.key < 32) && (rightV i.ver && (wholeF i.x i.y && (decide (i.text.size ≤ 16) && (!(i.dead && (!(decide (i.x = 0) && decide (i.y = 0)) || i.held)) && (i.held || decide (i.text.size = 0)))))))

theorem fl_zero : (0 : Nat) = fl 0 := by decide
theorem eql_zero (n : Int) (h : n.natAbs < 2 ^ 53) : (FloatKind.f64.format.order (fl n) 0 == some .eq) = decide (n = 0) := by
  have := eql_fl n 0 h (by decide)
  rwa [← fl_zero] at this

set_option maxRecDepth 100000 in
set_option maxHeartbeats 4000000 in
theorem itemRight_any (i : Itm) (hx : i.x.natAbs < 2 ^ 53) (hy : i.y.natAbs < 2 ^ 53) (w : World) : Calls Try.prog 33 #[itmV i] w fun e w' => e = .returned (.bool (rightI i)) ∧ Below w.heap.size w w' := by
  obtain ⟨key, v, dead, x, y, text, held⟩ := i
  have HC := Lib.hid (show rightI ⟨key, v, dead, x, y, text, held⟩ = (decide (0 ≤ key) && (decide (key < 32) && (rightV v && (wholeF x y && (decide (text.size ≤ 16) && (!(dead && (!(decide (x = 0) && decide (y = 0)) || held)) && (held || decide (text.size = 0)))))))) from rfl)
  have H1 := Lib.hid (rightVersion_any v)
  have H2 := Lib.hid (whole_any x y hx hy)
  have z1 := eql_zero x hx
  have z2 := eql_zero y hy
  unfold itmV
  simp only at hx hy ⊢
  unfold vrsV at H1
  obtain ⟨d, a, s⟩ := v
  simp only at H1 ⊢
  generalize rightV ⟨d, a, s⟩ = b1 at *
  generalize wholeF x y = b2 at *
  generalize fl x = fx at *
  generalize fl y = fy at *
  generalize decide (x = 0) = b3 at *
  generalize decide (y = 0) = b4 at *
  clear hx hy
  by_cases k0 : key < 0
  · rw [decide_eq_false (by omega)] at HC
    go_enter Try.func33, Try.ntmps33
    go_wp2
    go_ret
    exact ⟨ret_bool (by rw [HC.out]; rfl), (Below.refl _ _).alloc (Nat.le_refl _) _⟩
  · rw [decide_eq_true (show 0 ≤ key by omega)] at HC
    by_cases k1 : 32 ≤ key
    · rw [decide_eq_false (show ¬ key < 32 by omega)] at HC
      go_enter Try.func33, Try.ntmps33
      go_wp2
      go_ret
      exact ⟨ret_bool (by rw [HC.out]; rfl), (Below.refl _ _).alloc (Nat.le_refl _) _⟩
    · rw [decide_eq_true (show key < 32 by omega)] at HC
      go_enter Try.func33, Try.ntmps33
      go_wp2_with fail
      refine (H1.out _).mono ?_
      rintro e w1 ⟨rfl, hb⟩
      have q4 : w1.cell? ⟨w.heap.size, 4, none⟩ = some (.bool dead) := (hb.cell (by simp)).trans (by simp [go_sem])
      have q5 : w1.cell? ⟨w.heap.size, 5, none⟩ = some (.complex .f64 fx fy) := (hb.cell (by simp)).trans (by simp [go_sem])
      have q6 : w1.cell? ⟨w.heap.size, 6, none⟩ = some (.string text) := (hb.cell (by simp)).trans (by simp [go_sem])
      have q7 : w1.cell? ⟨w.heap.size, 7, none⟩ = some (.bool held) := (hb.cell (by simp)).trans (by simp [go_sem])
      have HB : Hid (Below w.heap.size w w1) := ((Below.refl _ _).alloc (Nat.le_refl _) _).trans (hb.mono (by simp))
      clear hb H1 k0 k1
      cases b1
      · go_wp2
        go_ret
        exact ⟨ret_bool (by rw [HC.out]; rfl), HB.out⟩
      · go_wp2_with fail
        refine (H2.out _).mono ?_
        rintro e w2 ⟨rfl, rfl⟩
        cases b2
        · go_wp2
          go_ret
          exact ⟨ret_bool (by rw [HC.out]; rfl), HB.out⟩
        · by_cases t16 : 16 < text.size
          · have t16' : (16 : Int) < text.size := by omega
            rw [decide_eq_false (show ¬ text.size ≤ 16 by omega)] at HC
            go_wp2
            go_ret
            exact ⟨ret_bool (by rw [HC.out]; rfl), HB.out⟩
          · have t16' : ¬ ((16 : Int) < text.size) := by omega
            rw [decide_eq_true (show text.size ≤ 16 by omega)] at HC
            have HE := Lib.hid (empty_size text)
            rw [← HE.out] at HC
            clear t16
            cases dead <;> cases held <;> cases b3 <;> cases b4
            all_goals
              go_wp2
              go_ret
              exact ⟨ret_bool (by rw [HC.out]; simp), HB.out⟩
end Go.Proofs.Ytpaiigminmakgaa
