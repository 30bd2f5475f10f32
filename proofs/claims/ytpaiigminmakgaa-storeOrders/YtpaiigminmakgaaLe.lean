/- near; the document's Whole, Right and Stub; From. -/
import Derived.Test.YtpaiigminmakgaaLa
namespace Go.Proofs.Ytpaiigminmakgaa
open Go.RowKit

def nearF (x y : Int) : Bool := decide (x < 1099511627776) && (decide (-1099511627776 < x) && (decide (y < 1099511627776) && decide (-1099511627776 < y)))
theorem near_small {x y : Int} (h : nearF x y = true) : x.natAbs < 2 ^ 53 ∧ y.natAbs < 2 ^ 53 := by
  unfold nearF at h
  simp only [Bool.and_eq_true, decide_eq_true_eq] at h
  have : (2 : Nat) ^ 53 = 9007199254740992 := by decide
  omega
set_option maxRecDepth 100000 in
set_option maxHeartbeats 1000000 in
theorem rnear_any (n : Int) (w : World) : Calls Try.prog 76 #[.int .i64 n, .int .i64 1000] w fun e w' => e = .returned (.bool (withinF n (-1000) 1000)) ∧ w = w' := by
  have HC := Lib.hid (show withinF n (-1000) 1000 = (decide (-1000 ≤ n) && decide (n ≤ 1000)) from rfl)
  by_cases h1 : -1000 ≤ n
  · rw [decide_eq_true h1] at HC
    go_enter Try.func76, Try.ntmps76
    go_wp2
    go_ret
    exact ⟨ret_bool (by rw [HC.out]; rfl), rfl⟩
  · rw [decide_eq_false h1] at HC
    have h1' : decide (-1000 ≤ n) = false := by simpa using h1
    go_enter Try.func76, Try.ntmps76
    go_wp2
    go_ret
    exact ⟨ret_bool (by rw [HC.out]; rfl), rfl⟩
set_option maxRecDepth 100000 in
set_option maxHeartbeats 1000000 in
theorem rwhole_any (x y : Int) (w : World) : Calls Try.prog 59 #[.agg #[.int .i64 x, .int .i64 y]] w fun e w' => e = .returned (.bool (wholeF x y)) ∧ Below w.heap.size w w' := by
  have HC := Lib.hid (show wholeF x y = (withinF x (-1000) 1000 && withinF y (-1000) 1000) from rfl)
  have H1 := Lib.hid (rnear_any x)
  have H2 := Lib.hid (rnear_any y)
  generalize withinF x (-1000) 1000 = b1 at *
  generalize withinF y (-1000) 1000 = b2 at *
  go_enter Try.func59, Try.ntmps59
  go_wp2_with fail
  refine (H1.out _).mono ?_
  rintro e w1 ⟨rfl, rfl⟩
  cases b1
  · go_wp2
    go_ret
    exact ⟨ret_bool (by rw [HC.out]; rfl), (Below.refl _ _).alloc (Nat.le_refl _) _⟩
  · go_wp2_with fail
    refine (H2.out _).mono ?_
    rintro e w1 ⟨rfl, rfl⟩
    go_wp2
    go_ret
    exact ⟨ret_bool (by rw [HC.out]; rfl), (Below.refl _ _).alloc (Nat.le_refl _) _⟩
set_option maxRecDepth 100000 in
set_option maxHeartbeats 1000000 in
theorem refStub_any (i : Itm) (w : World) : Calls Try.prog 31 #[refV i] w fun e w' => e = .returned (refV (stubI i)) ∧ Below w.heap.size w w' := by
  obtain ⟨key, ⟨d, a, s⟩, dead, x, y, text, held⟩ := i
  unfold refV stubI
  simp only
  go_enter Try.func31, Try.ntmps31
  go_wp2
  refine bodyPost_ret (v := .agg #[.int .i64 key, .string d, .int .i64 a, .int .i64 s, .bool dead, .int .i64 x, .int .i64 y, .string ⟨#[]⟩, .bool false]) ?_ rfl ?_
  · simp [results, Try.results31, go_sem]
  · exact ⟨rfl, ((Below.refl _ _).alloc (Nat.le_refl _) _).alloc (by simp) _⟩
set_option maxRecDepth 100000 in
set_option maxHeartbeats 1000000 in
theorem place_any (x y : Int) (hx : x.natAbs < 2 ^ 53) (hy : y.natAbs < 2 ^ 53) (w : World) : Calls Try.prog 44 #[.complex .f64 (fl x) (fl y)] w fun e w' => e = .returned (.agg #[.int .i64 x, .int .i64 y]) ∧ Below w.heap.size w w' := by
  have c1 : ∀ w, (convert 109 3 (.float .f64 (fl x))).run Try.prog w = .ok (.int .i64 x) w := fun w => run_convert_float_int w 109 3 .f64 .i64 _ x (by kernel_rfl) Try.underlying3 (int_fl x hx)
  have c2 : ∀ w, (convert 109 3 (.float .f64 (fl y))).run Try.prog w = .ok (.int .i64 y) w := fun w => run_convert_float_int w 109 3 .f64 .i64 _ y (by kernel_rfl) Try.underlying3 (int_fl y hy)
  clear hx hy
  generalize fl x = fx at *
  generalize fl y = fy at *
  go_enter Try.func44, Try.ntmps44
  go_wp2
  refine bodyPost_ret (v := .agg #[.int .i64 x, .int .i64 y]) ?_ rfl ?_
  · simp [results, Try.results44, go_sem]
  · exact ⟨rfl, (Below.refl _ _).alloc (Nat.le_refl _) _⟩
set_option maxRecDepth 100000 in
set_option maxHeartbeats 4000000 in
theorem refRight_any (i : Itm) (w : World) : Calls Try.prog 34 #[refV i] w fun e w' => e = .returned (.bool (rightI i)) ∧ Below w.heap.size w w' := by
  obtain ⟨key, ⟨d, a, s⟩, dead, x, y, text, held⟩ := i
  have HC := Lib.hid (show rightI ⟨key, ⟨d, a, s⟩, dead, x, y, text, held⟩ = (decide (0 ≤ key) && (decide (key < 32) && ((rightL d.data.toList && ((decide (1 ≤ a) && decide (a ≤ 1048576)) && (decide (1 ≤ s) && decide (s ≤ 1048576)))) && (wholeF x y && (decide (text.size ≤ 16) && (!(dead && (!(decide (x = 0) && decide (y = 0)) || held)) && (held || decide (text.size = 0)))))))) from rfl)
  have H1 := Lib.hid (rright_any d)
  have H2 := Lib.hid (rwhole_any x y)
  unfold refV
  simp only
  generalize rightI ⟨key, ⟨d, a, s⟩, dead, x, y, text, held⟩ = R at *
  generalize rightL d.data.toList = b1 at *
  generalize wholeF x y = b2 at *
  have hz0 : ((text.size : Int) == 0) = decide (text.size = 0) := by rw [Bool.eq_iff_iff]; simp only [beq_iff_eq, decide_eq_true_eq]; omega
  have HZ := Lib.hid hz0
  clear hz0
  generalize decide (text.size = 0) = bz at HC HZ
  by_cases k0 : key < 0
  · rw [decide_eq_false (show ¬ 0 ≤ key by omega)] at HC
    go_enter Try.func34, Try.ntmps34
    go_wp2
    go_ret
    exact ⟨ret_bool (by rw [HC.out]; simp), (Below.refl _ _).alloc (Nat.le_refl _) _⟩
  rw [decide_eq_true (show 0 ≤ key by omega)] at HC
  have k0' : decide (key < 0) = false := by simpa using k0
  by_cases k1 : 31 < key
  · rw [decide_eq_false (show ¬ key < 32 by omega)] at HC
    go_enter Try.func34, Try.ntmps34
    go_wp2
    go_ret
    exact ⟨ret_bool (by rw [HC.out]; simp), (Below.refl _ _).alloc (Nat.le_refl _) _⟩
  rw [decide_eq_true (show key < 32 by omega)] at HC
  have k1' : decide (31 < key) = false := by simpa using k1
  go_enter Try.func34, Try.ntmps34
  go_wp2_with fail
  refine (H1.out _).mono ?_
  rintro e w1 ⟨rfl, rfl⟩
  have HB : Hid (Below w.heap.size w (w.alloc (.cells #[.int .i64 key, .string d, .int .i64 a, .int .i64 s, .bool dead, .int .i64 x, .int .i64 y, .string text, .bool held] 28))) := (Below.refl _ _).alloc (Nat.le_refl _) _
  cases b1
  · go_wp2
    go_ret
    exact ⟨ret_bool (by rw [HC.out]; simp), HB.out⟩
  by_cases k2 : a < 1
  · rw [decide_eq_false (show ¬ 1 ≤ a by omega)] at HC
    go_wp2
    go_ret
    exact ⟨ret_bool (by rw [HC.out]; simp), HB.out⟩
  rw [decide_eq_true (show 1 ≤ a by omega)] at HC
  have k2' : decide (a < 1) = false := by simpa using k2
  by_cases k2h : 1048576 < a
  · rw [decide_eq_false (show ¬ a ≤ 1048576 by omega)] at HC
    go_wp2
    go_ret
    exact ⟨ret_bool (by rw [HC.out]; simp), HB.out⟩
  rw [decide_eq_true (show a ≤ 1048576 by omega)] at HC
  have k2h' : decide (1048576 < a) = false := by simpa using k2h
  by_cases k3 : s < 1
  · rw [decide_eq_false (show ¬ 1 ≤ s by omega)] at HC
    go_wp2
    go_ret
    exact ⟨ret_bool (by rw [HC.out]; simp), HB.out⟩
  rw [decide_eq_true (show 1 ≤ s by omega)] at HC
  have k3' : decide (s < 1) = false := by simpa using k3
  by_cases k3h : 1048576 < s
  · rw [decide_eq_false (show ¬ s ≤ 1048576 by omega)] at HC
    go_wp2
    go_ret
    exact ⟨ret_bool (by rw [HC.out]; simp), HB.out⟩
  rw [decide_eq_true (show s ≤ 1048576 by omega)] at HC
  have k3h' : decide (1048576 < s) = false := by simpa using k3h
  go_wp2_with fail
  refine (H2.out _).mono ?_
  rintro e w2 ⟨rfl, hb⟩
  have q4 : w2.cell? ⟨w.heap.size, 4, none⟩ = some (.bool dead) := (hb.cell (by simp)).trans (by simp [go_sem])
  have q5 : w2.cell? ⟨w.heap.size, 5, none⟩ = some (.int .i64 x) := (hb.cell (by simp)).trans (by simp [go_sem])
  have q6 : w2.cell? ⟨w.heap.size, 6, none⟩ = some (.int .i64 y) := (hb.cell (by simp)).trans (by simp [go_sem])
  have q7 : w2.cell? ⟨w.heap.size, 7, none⟩ = some (.string text) := (hb.cell (by simp)).trans (by simp [go_sem])
  have q8 : w2.cell? ⟨w.heap.size, 8, none⟩ = some (.bool held) := (hb.cell (by simp)).trans (by simp [go_sem])
  replace HB := Lib.hid (HB.out.trans (hb.mono (by simp)))
  clear hb H1 H2 k0 k1 k2 k3 k2h k3h k0' k1' k2' k3' k2h' k3h'
  cases b2
  · go_wp2
    go_ret
    exact ⟨ret_bool (by rw [HC.out]; simp), HB.out⟩
  by_cases t16 : 16 < text.size
  · have t16' : (16 : Int) < text.size := by omega
    rw [decide_eq_false (show ¬ text.size ≤ 16 by omega)] at HC
    go_wp2
    go_ret
    exact ⟨ret_bool (by rw [HC.out]; simp), HB.out⟩
  have t16' : decide ((16 : Int) < text.size) = false := by simp; omega
  rw [decide_eq_true (show text.size ≤ 16 by omega)] at HC
  clear t16
  cases dead
  · cases held
    · go_wp2
      go_ret
      exact ⟨ret_bool (by rw [HC.out, HZ.out]; simp), HB.out⟩
    · go_wp2
      go_ret
      exact ⟨ret_bool (by rw [HC.out]; simp), HB.out⟩
  by_cases hx : x = 0
  · subst hx
    by_cases hy : y = 0
    · subst hy
      cases held
      · go_wp2
        go_ret
        exact ⟨ret_bool (by rw [HC.out, HZ.out]; simp), HB.out⟩
      · go_wp2
        go_ret
        exact ⟨ret_bool (by rw [HC.out]; simp), HB.out⟩
    · rw [decide_eq_false hy] at HC
      go_wp2
      go_ret
      exact ⟨ret_bool (by rw [HC.out]; simp), HB.out⟩
  rw [decide_eq_false hx] at HC
  go_wp2
  go_ret
  exact ⟨ret_bool (by rw [HC.out]; simp), HB.out⟩
set_option maxRecDepth 100000 in
set_option maxHeartbeats 1000000 in
theorem from_any (i : Itm) (hx : i.x.natAbs < 2 ^ 53) (hy : i.y.natAbs < 2 ^ 53) (w : World) : Calls Try.prog 22 #[itmV i] w fun e w' => e = .returned (refV i) ∧ Below w.heap.size w w' := by
  obtain ⟨key, ⟨d, a, s⟩, dead, x, y, text, held⟩ := i
  have HP := Lib.hid (place_any x y hx hy)
  unfold itmV refV
  simp only
  clear hx hy
  generalize fl x = fx at *
  generalize fl y = fy at *
  go_enter Try.func22, Try.ntmps22
  go_upto_region 1 with fail
  have k0 : ((w.alloc (.cells #[.int .i64 key, .string d, .int .i64 a, .int .i64 s, .bool dead, .complex .f64 fx fy, .string text, .bool held] 46)).alloc (.cells #[.int .i64 0, .string ⟨#[]⟩, .int .i64 0, .int .i64 0, .bool false, .int .i64 0, .int .i64 0, .string ⟨#[]⟩, .bool false] 28)).cell? ⟨w.heap.size, 0, none⟩ = some (.int .i64 key) := by simp [go_sem]
  have kf0 : ((w.alloc (.cells #[.int .i64 key, .string d, .int .i64 a, .int .i64 s, .bool dead, .complex .f64 fx fy, .string text, .bool held] 46)).alloc (.cells #[.int .i64 0, .string ⟨#[]⟩, .int .i64 0, .int .i64 0, .bool false, .int .i64 0, .int .i64 0, .string ⟨#[]⟩, .bool false] 28)).frozen? ⟨w.heap.size, 0, none⟩ = false := by simp [go_sem]
  have k1 : ((w.alloc (.cells #[.int .i64 key, .string d, .int .i64 a, .int .i64 s, .bool dead, .complex .f64 fx fy, .string text, .bool held] 46)).alloc (.cells #[.int .i64 0, .string ⟨#[]⟩, .int .i64 0, .int .i64 0, .bool false, .int .i64 0, .int .i64 0, .string ⟨#[]⟩, .bool false] 28)).cell? ⟨w.heap.size, 1, none⟩ = some (.string d) := by simp [go_sem]
  have kf1 : ((w.alloc (.cells #[.int .i64 key, .string d, .int .i64 a, .int .i64 s, .bool dead, .complex .f64 fx fy, .string text, .bool held] 46)).alloc (.cells #[.int .i64 0, .string ⟨#[]⟩, .int .i64 0, .int .i64 0, .bool false, .int .i64 0, .int .i64 0, .string ⟨#[]⟩, .bool false] 28)).frozen? ⟨w.heap.size, 1, none⟩ = false := by simp [go_sem]
  have k2 : ((w.alloc (.cells #[.int .i64 key, .string d, .int .i64 a, .int .i64 s, .bool dead, .complex .f64 fx fy, .string text, .bool held] 46)).alloc (.cells #[.int .i64 0, .string ⟨#[]⟩, .int .i64 0, .int .i64 0, .bool false, .int .i64 0, .int .i64 0, .string ⟨#[]⟩, .bool false] 28)).cell? ⟨w.heap.size, 2, none⟩ = some (.int .i64 a) := by simp [go_sem]
  have kf2 : ((w.alloc (.cells #[.int .i64 key, .string d, .int .i64 a, .int .i64 s, .bool dead, .complex .f64 fx fy, .string text, .bool held] 46)).alloc (.cells #[.int .i64 0, .string ⟨#[]⟩, .int .i64 0, .int .i64 0, .bool false, .int .i64 0, .int .i64 0, .string ⟨#[]⟩, .bool false] 28)).frozen? ⟨w.heap.size, 2, none⟩ = false := by simp [go_sem]
  have k3 : ((w.alloc (.cells #[.int .i64 key, .string d, .int .i64 a, .int .i64 s, .bool dead, .complex .f64 fx fy, .string text, .bool held] 46)).alloc (.cells #[.int .i64 0, .string ⟨#[]⟩, .int .i64 0, .int .i64 0, .bool false, .int .i64 0, .int .i64 0, .string ⟨#[]⟩, .bool false] 28)).cell? ⟨w.heap.size, 3, none⟩ = some (.int .i64 s) := by simp [go_sem]
  have kf3 : ((w.alloc (.cells #[.int .i64 key, .string d, .int .i64 a, .int .i64 s, .bool dead, .complex .f64 fx fy, .string text, .bool held] 46)).alloc (.cells #[.int .i64 0, .string ⟨#[]⟩, .int .i64 0, .int .i64 0, .bool false, .int .i64 0, .int .i64 0, .string ⟨#[]⟩, .bool false] 28)).frozen? ⟨w.heap.size, 3, none⟩ = false := by simp [go_sem]
  have k4 : ((w.alloc (.cells #[.int .i64 key, .string d, .int .i64 a, .int .i64 s, .bool dead, .complex .f64 fx fy, .string text, .bool held] 46)).alloc (.cells #[.int .i64 0, .string ⟨#[]⟩, .int .i64 0, .int .i64 0, .bool false, .int .i64 0, .int .i64 0, .string ⟨#[]⟩, .bool false] 28)).cell? ⟨w.heap.size, 4, none⟩ = some (.bool dead) := by simp [go_sem]
  have kf4 : ((w.alloc (.cells #[.int .i64 key, .string d, .int .i64 a, .int .i64 s, .bool dead, .complex .f64 fx fy, .string text, .bool held] 46)).alloc (.cells #[.int .i64 0, .string ⟨#[]⟩, .int .i64 0, .int .i64 0, .bool false, .int .i64 0, .int .i64 0, .string ⟨#[]⟩, .bool false] 28)).frozen? ⟨w.heap.size, 4, none⟩ = false := by simp [go_sem]
  have k5 : ((w.alloc (.cells #[.int .i64 key, .string d, .int .i64 a, .int .i64 s, .bool dead, .complex .f64 fx fy, .string text, .bool held] 46)).alloc (.cells #[.int .i64 0, .string ⟨#[]⟩, .int .i64 0, .int .i64 0, .bool false, .int .i64 0, .int .i64 0, .string ⟨#[]⟩, .bool false] 28)).cell? ⟨w.heap.size, 5, none⟩ = some (.complex .f64 fx fy) := by simp [go_sem]
  have kf5 : ((w.alloc (.cells #[.int .i64 key, .string d, .int .i64 a, .int .i64 s, .bool dead, .complex .f64 fx fy, .string text, .bool held] 46)).alloc (.cells #[.int .i64 0, .string ⟨#[]⟩, .int .i64 0, .int .i64 0, .bool false, .int .i64 0, .int .i64 0, .string ⟨#[]⟩, .bool false] 28)).frozen? ⟨w.heap.size, 5, none⟩ = false := by simp [go_sem]
  have k6 : ((w.alloc (.cells #[.int .i64 key, .string d, .int .i64 a, .int .i64 s, .bool dead, .complex .f64 fx fy, .string text, .bool held] 46)).alloc (.cells #[.int .i64 0, .string ⟨#[]⟩, .int .i64 0, .int .i64 0, .bool false, .int .i64 0, .int .i64 0, .string ⟨#[]⟩, .bool false] 28)).cell? ⟨w.heap.size, 6, none⟩ = some (.string text) := by simp [go_sem]
  have kf6 : ((w.alloc (.cells #[.int .i64 key, .string d, .int .i64 a, .int .i64 s, .bool dead, .complex .f64 fx fy, .string text, .bool held] 46)).alloc (.cells #[.int .i64 0, .string ⟨#[]⟩, .int .i64 0, .int .i64 0, .bool false, .int .i64 0, .int .i64 0, .string ⟨#[]⟩, .bool false] 28)).frozen? ⟨w.heap.size, 6, none⟩ = false := by simp [go_sem]
  have k7 : ((w.alloc (.cells #[.int .i64 key, .string d, .int .i64 a, .int .i64 s, .bool dead, .complex .f64 fx fy, .string text, .bool held] 46)).alloc (.cells #[.int .i64 0, .string ⟨#[]⟩, .int .i64 0, .int .i64 0, .bool false, .int .i64 0, .int .i64 0, .string ⟨#[]⟩, .bool false] 28)).cell? ⟨w.heap.size, 7, none⟩ = some (.bool held) := by simp [go_sem]
  have kf7 : ((w.alloc (.cells #[.int .i64 key, .string d, .int .i64 a, .int .i64 s, .bool dead, .complex .f64 fx fy, .string text, .bool held] 46)).alloc (.cells #[.int .i64 0, .string ⟨#[]⟩, .int .i64 0, .int .i64 0, .bool false, .int .i64 0, .int .i64 0, .string ⟨#[]⟩, .bool false] 28)).frozen? ⟨w.heap.size, 7, none⟩ = false := by simp [go_sem]
  have kz : w.heap.size < ((w.alloc (.cells #[.int .i64 key, .string d, .int .i64 a, .int .i64 s, .bool dead, .complex .f64 fx fy, .string text, .bool held] 46)).alloc (.cells #[.int .i64 0, .string ⟨#[]⟩, .int .i64 0, .int .i64 0, .bool false, .int .i64 0, .int .i64 0, .string ⟨#[]⟩, .bool false] 28)).heap.size := by simp <;> omega
  have z0 : ((w.alloc (.cells #[.int .i64 key, .string d, .int .i64 a, .int .i64 s, .bool dead, .complex .f64 fx fy, .string text, .bool held] 46)).alloc (.cells #[.int .i64 0, .string ⟨#[]⟩, .int .i64 0, .int .i64 0, .bool false, .int .i64 0, .int .i64 0, .string ⟨#[]⟩, .bool false] 28)).cell? ⟨w.heap.size + 1, 0, none⟩ = some (.int .i64 0) := by simp [go_sem]
  have zf0 : ((w.alloc (.cells #[.int .i64 key, .string d, .int .i64 a, .int .i64 s, .bool dead, .complex .f64 fx fy, .string text, .bool held] 46)).alloc (.cells #[.int .i64 0, .string ⟨#[]⟩, .int .i64 0, .int .i64 0, .bool false, .int .i64 0, .int .i64 0, .string ⟨#[]⟩, .bool false] 28)).frozen? ⟨w.heap.size + 1, 0, none⟩ = false := by simp [go_sem]
  have z1 : ((w.alloc (.cells #[.int .i64 key, .string d, .int .i64 a, .int .i64 s, .bool dead, .complex .f64 fx fy, .string text, .bool held] 46)).alloc (.cells #[.int .i64 0, .string ⟨#[]⟩, .int .i64 0, .int .i64 0, .bool false, .int .i64 0, .int .i64 0, .string ⟨#[]⟩, .bool false] 28)).cell? ⟨w.heap.size + 1, 1, none⟩ = some (.string ⟨#[]⟩) := by simp [go_sem]
  have zf1 : ((w.alloc (.cells #[.int .i64 key, .string d, .int .i64 a, .int .i64 s, .bool dead, .complex .f64 fx fy, .string text, .bool held] 46)).alloc (.cells #[.int .i64 0, .string ⟨#[]⟩, .int .i64 0, .int .i64 0, .bool false, .int .i64 0, .int .i64 0, .string ⟨#[]⟩, .bool false] 28)).frozen? ⟨w.heap.size + 1, 1, none⟩ = false := by simp [go_sem]
  have z2 : ((w.alloc (.cells #[.int .i64 key, .string d, .int .i64 a, .int .i64 s, .bool dead, .complex .f64 fx fy, .string text, .bool held] 46)).alloc (.cells #[.int .i64 0, .string ⟨#[]⟩, .int .i64 0, .int .i64 0, .bool false, .int .i64 0, .int .i64 0, .string ⟨#[]⟩, .bool false] 28)).cell? ⟨w.heap.size + 1, 2, none⟩ = some (.int .i64 0) := by simp [go_sem]
  have zf2 : ((w.alloc (.cells #[.int .i64 key, .string d, .int .i64 a, .int .i64 s, .bool dead, .complex .f64 fx fy, .string text, .bool held] 46)).alloc (.cells #[.int .i64 0, .string ⟨#[]⟩, .int .i64 0, .int .i64 0, .bool false, .int .i64 0, .int .i64 0, .string ⟨#[]⟩, .bool false] 28)).frozen? ⟨w.heap.size + 1, 2, none⟩ = false := by simp [go_sem]
  have z3 : ((w.alloc (.cells #[.int .i64 key, .string d, .int .i64 a, .int .i64 s, .bool dead, .complex .f64 fx fy, .string text, .bool held] 46)).alloc (.cells #[.int .i64 0, .string ⟨#[]⟩, .int .i64 0, .int .i64 0, .bool false, .int .i64 0, .int .i64 0, .string ⟨#[]⟩, .bool false] 28)).cell? ⟨w.heap.size + 1, 3, none⟩ = some (.int .i64 0) := by simp [go_sem]
  have zf3 : ((w.alloc (.cells #[.int .i64 key, .string d, .int .i64 a, .int .i64 s, .bool dead, .complex .f64 fx fy, .string text, .bool held] 46)).alloc (.cells #[.int .i64 0, .string ⟨#[]⟩, .int .i64 0, .int .i64 0, .bool false, .int .i64 0, .int .i64 0, .string ⟨#[]⟩, .bool false] 28)).frozen? ⟨w.heap.size + 1, 3, none⟩ = false := by simp [go_sem]
  have z4 : ((w.alloc (.cells #[.int .i64 key, .string d, .int .i64 a, .int .i64 s, .bool dead, .complex .f64 fx fy, .string text, .bool held] 46)).alloc (.cells #[.int .i64 0, .string ⟨#[]⟩, .int .i64 0, .int .i64 0, .bool false, .int .i64 0, .int .i64 0, .string ⟨#[]⟩, .bool false] 28)).cell? ⟨w.heap.size + 1, 4, none⟩ = some (.bool false) := by simp [go_sem]
  have zf4 : ((w.alloc (.cells #[.int .i64 key, .string d, .int .i64 a, .int .i64 s, .bool dead, .complex .f64 fx fy, .string text, .bool held] 46)).alloc (.cells #[.int .i64 0, .string ⟨#[]⟩, .int .i64 0, .int .i64 0, .bool false, .int .i64 0, .int .i64 0, .string ⟨#[]⟩, .bool false] 28)).frozen? ⟨w.heap.size + 1, 4, none⟩ = false := by simp [go_sem]
  have z5 : ((w.alloc (.cells #[.int .i64 key, .string d, .int .i64 a, .int .i64 s, .bool dead, .complex .f64 fx fy, .string text, .bool held] 46)).alloc (.cells #[.int .i64 0, .string ⟨#[]⟩, .int .i64 0, .int .i64 0, .bool false, .int .i64 0, .int .i64 0, .string ⟨#[]⟩, .bool false] 28)).cell? ⟨w.heap.size + 1, 5, none⟩ = some (.int .i64 0) := by simp [go_sem]
  have zf5 : ((w.alloc (.cells #[.int .i64 key, .string d, .int .i64 a, .int .i64 s, .bool dead, .complex .f64 fx fy, .string text, .bool held] 46)).alloc (.cells #[.int .i64 0, .string ⟨#[]⟩, .int .i64 0, .int .i64 0, .bool false, .int .i64 0, .int .i64 0, .string ⟨#[]⟩, .bool false] 28)).frozen? ⟨w.heap.size + 1, 5, none⟩ = false := by simp [go_sem]
  have z6 : ((w.alloc (.cells #[.int .i64 key, .string d, .int .i64 a, .int .i64 s, .bool dead, .complex .f64 fx fy, .string text, .bool held] 46)).alloc (.cells #[.int .i64 0, .string ⟨#[]⟩, .int .i64 0, .int .i64 0, .bool false, .int .i64 0, .int .i64 0, .string ⟨#[]⟩, .bool false] 28)).cell? ⟨w.heap.size + 1, 6, none⟩ = some (.int .i64 0) := by simp [go_sem]
  have zf6 : ((w.alloc (.cells #[.int .i64 key, .string d, .int .i64 a, .int .i64 s, .bool dead, .complex .f64 fx fy, .string text, .bool held] 46)).alloc (.cells #[.int .i64 0, .string ⟨#[]⟩, .int .i64 0, .int .i64 0, .bool false, .int .i64 0, .int .i64 0, .string ⟨#[]⟩, .bool false] 28)).frozen? ⟨w.heap.size + 1, 6, none⟩ = false := by simp [go_sem]
  have z7 : ((w.alloc (.cells #[.int .i64 key, .string d, .int .i64 a, .int .i64 s, .bool dead, .complex .f64 fx fy, .string text, .bool held] 46)).alloc (.cells #[.int .i64 0, .string ⟨#[]⟩, .int .i64 0, .int .i64 0, .bool false, .int .i64 0, .int .i64 0, .string ⟨#[]⟩, .bool false] 28)).cell? ⟨w.heap.size + 1, 7, none⟩ = some (.string ⟨#[]⟩) := by simp [go_sem]
  have zf7 : ((w.alloc (.cells #[.int .i64 key, .string d, .int .i64 a, .int .i64 s, .bool dead, .complex .f64 fx fy, .string text, .bool held] 46)).alloc (.cells #[.int .i64 0, .string ⟨#[]⟩, .int .i64 0, .int .i64 0, .bool false, .int .i64 0, .int .i64 0, .string ⟨#[]⟩, .bool false] 28)).frozen? ⟨w.heap.size + 1, 7, none⟩ = false := by simp [go_sem]
  have z8 : ((w.alloc (.cells #[.int .i64 key, .string d, .int .i64 a, .int .i64 s, .bool dead, .complex .f64 fx fy, .string text, .bool held] 46)).alloc (.cells #[.int .i64 0, .string ⟨#[]⟩, .int .i64 0, .int .i64 0, .bool false, .int .i64 0, .int .i64 0, .string ⟨#[]⟩, .bool false] 28)).cell? ⟨w.heap.size + 1, 8, none⟩ = some (.bool false) := by simp [go_sem]
  have zf8 : ((w.alloc (.cells #[.int .i64 key, .string d, .int .i64 a, .int .i64 s, .bool dead, .complex .f64 fx fy, .string text, .bool held] 46)).alloc (.cells #[.int .i64 0, .string ⟨#[]⟩, .int .i64 0, .int .i64 0, .bool false, .int .i64 0, .int .i64 0, .string ⟨#[]⟩, .bool false] 28)).frozen? ⟨w.heap.size + 1, 8, none⟩ = false := by simp [go_sem]
  have zz : w.heap.size + 1 < ((w.alloc (.cells #[.int .i64 key, .string d, .int .i64 a, .int .i64 s, .bool dead, .complex .f64 fx fy, .string text, .bool held] 46)).alloc (.cells #[.int .i64 0, .string ⟨#[]⟩, .int .i64 0, .int .i64 0, .bool false, .int .i64 0, .int .i64 0, .string ⟨#[]⟩, .bool false] 28)).heap.size := by simp <;> omega
  have HB : Hid (Below w.heap.size w ((w.alloc (.cells #[.int .i64 key, .string d, .int .i64 a, .int .i64 s, .bool dead, .complex .f64 fx fy, .string text, .bool held] 46)).alloc (.cells #[.int .i64 0, .string ⟨#[]⟩, .int .i64 0, .int .i64 0, .bool false, .int .i64 0, .int .i64 0, .string ⟨#[]⟩, .bool false] 28))) := ((Below.refl _ _).alloc (Nat.le_refl _) _).alloc (by simp) _
  generalize ((w.alloc (.cells #[.int .i64 key, .string d, .int .i64 a, .int .i64 s, .bool dead, .complex .f64 fx fy, .string text, .bool held] 46)).alloc (.cells #[.int .i64 0, .string ⟨#[]⟩, .int .i64 0, .int .i64 0, .bool false, .int .i64 0, .int .i64 0, .string ⟨#[]⟩, .bool false] 28)) = W at *
  refine tail_begin (S := fun w' => w'.cell? ⟨w.heap.size, 0, none⟩ = some (.int .i64 key) ∧ w'.cell? ⟨w.heap.size, 1, none⟩ = some (.string d) ∧ w'.cell? ⟨w.heap.size, 2, none⟩ = some (.int .i64 a) ∧ w'.cell? ⟨w.heap.size, 3, none⟩ = some (.int .i64 s) ∧ w'.cell? ⟨w.heap.size, 4, none⟩ = some (.bool dead) ∧ w'.cell? ⟨w.heap.size, 5, none⟩ = some (.complex .f64 fx fy) ∧ w'.cell? ⟨w.heap.size, 6, none⟩ = some (.string text) ∧ w'.cell? ⟨w.heap.size, 7, none⟩ = some (.bool held)) 22 (by kernel_rfl) ⟨k0, k1, k2, k3, k4, k5, k6, k7⟩ (fun hHeld => ?_)
  refine tail_take (i := 0) (oi := { dst := some 3, op := Go.Op.fieldAddr 46 (Go.Operand.tmp 1) 0, type := 0, pos := "law.go:25", after := #[], guard := none }) (v := ?_) rfl (by kernel_rfl) (by kernel_rfl) (by kernel_rfl) (by kernel_rfl) (fun _ _ _ h => h) (Or.inl ⟨rfl, ?_⟩) (by assumption) ?_
  rotate_left
  · intro wz hSw; (try dsimp only at hSw); go_simp; try (with_reducible rfl)
  try simp only [Act.put, List.setIfInBounds_toArray, List.set_cons_zero, List.set_cons_succ]
  refine tail_take (i := 1) (oi := { dst := some 4, op := Go.Op.load 3 (Go.Operand.tmp 3), type := 3, pos := "law.go:25", after := #[{ on := 0, ground := Go.Ground.data }], guard := none }) (v := ?_) rfl (by kernel_rfl) (by kernel_rfl) (by kernel_rfl) (by kernel_rfl) (fun _ _ _ h => h) (Or.inl ⟨rfl, ?_⟩) (by assumption) ?_
  rotate_left
  · intro wz hSw; (try dsimp only at hSw); go_simp; try (with_reducible rfl)
  try simp only [Act.put, List.setIfInBounds_toArray, List.set_cons_zero, List.set_cons_succ]
  refine tail_take (i := 2) (oi := { dst := some 5, op := Go.Op.fieldAddr 46 (Go.Operand.tmp 1) 1, type := 0, pos := "law.go:25", after := #[], guard := none }) (v := ?_) rfl (by kernel_rfl) (by kernel_rfl) (by kernel_rfl) (by kernel_rfl) (fun _ _ _ h => h) (Or.inl ⟨rfl, ?_⟩) (by assumption) ?_
  rotate_left
  · intro wz hSw; (try dsimp only at hSw); go_simp; try (with_reducible rfl)
  try simp only [Act.put, List.setIfInBounds_toArray, List.set_cons_zero, List.set_cons_succ]
  refine tail_take (i := 3) (oi := { dst := some 6, op := Go.Op.fieldAddr 43 (Go.Operand.tmp 5) 0, type := 0, pos := "law.go:25", after := #[{ on := 2, ground := Go.Ground.data }], guard := none }) (v := ?_) rfl (by kernel_rfl) (by kernel_rfl) (by kernel_rfl) (by kernel_rfl) (fun _ _ _ h => h) (Or.inl ⟨rfl, ?_⟩) (by assumption) ?_
  rotate_left
  · intro wz hSw; (try dsimp only at hSw); go_simp; try (with_reducible rfl)
  try simp only [Act.put, List.setIfInBounds_toArray, List.set_cons_zero, List.set_cons_succ]
  refine tail_take (i := 4) (oi := { dst := some 7, op := Go.Op.load 41 (Go.Operand.tmp 6), type := 41, pos := "law.go:25", after := #[{ on := 3, ground := Go.Ground.data }], guard := none }) (v := ?_) rfl (by kernel_rfl) (by kernel_rfl) (by kernel_rfl) (by kernel_rfl) (fun _ _ _ h => h) (Or.inl ⟨rfl, ?_⟩) (by assumption) ?_
  rotate_left
  · intro wz hSw; (try dsimp only at hSw); go_simp; try (with_reducible rfl)
  try simp only [Act.put, List.setIfInBounds_toArray, List.set_cons_zero, List.set_cons_succ]
  refine tail_take (i := 5) (oi := { dst := some 8, op := Go.Op.fieldAddr 46 (Go.Operand.tmp 1) 1, type := 0, pos := "law.go:25", after := #[], guard := none }) (v := ?_) rfl (by kernel_rfl) (by kernel_rfl) (by kernel_rfl) (by kernel_rfl) (fun _ _ _ h => h) (Or.inl ⟨rfl, ?_⟩) (by assumption) ?_
  rotate_left
  · intro wz hSw; (try dsimp only at hSw); go_simp; try (with_reducible rfl)
  try simp only [Act.put, List.setIfInBounds_toArray, List.set_cons_zero, List.set_cons_succ]
  refine tail_take (i := 6) (oi := { dst := some 9, op := Go.Op.fieldAddr 43 (Go.Operand.tmp 8) 1, type := 0, pos := "law.go:25", after := #[{ on := 5, ground := Go.Ground.data }], guard := none }) (v := ?_) rfl (by kernel_rfl) (by kernel_rfl) (by kernel_rfl) (by kernel_rfl) (fun _ _ _ h => h) (Or.inl ⟨rfl, ?_⟩) (by assumption) ?_
  rotate_left
  · intro wz hSw; (try dsimp only at hSw); go_simp; try (with_reducible rfl)
  try simp only [Act.put, List.setIfInBounds_toArray, List.set_cons_zero, List.set_cons_succ]
  refine tail_take (i := 7) (oi := { dst := some 10, op := Go.Op.load 3 (Go.Operand.tmp 9), type := 3, pos := "law.go:25", after := #[{ on := 6, ground := Go.Ground.data }], guard := none }) (v := ?_) rfl (by kernel_rfl) (by kernel_rfl) (by kernel_rfl) (by kernel_rfl) (fun _ _ _ h => h) (Or.inl ⟨rfl, ?_⟩) (by assumption) ?_
  rotate_left
  · intro wz hSw; (try dsimp only at hSw); go_simp; try (with_reducible rfl)
  try simp only [Act.put, List.setIfInBounds_toArray, List.set_cons_zero, List.set_cons_succ]
  refine tail_take (i := 8) (oi := { dst := some 11, op := Go.Op.fieldAddr 46 (Go.Operand.tmp 1) 1, type := 0, pos := "law.go:25", after := #[], guard := none }) (v := ?_) rfl (by kernel_rfl) (by kernel_rfl) (by kernel_rfl) (by kernel_rfl) (fun _ _ _ h => h) (Or.inl ⟨rfl, ?_⟩) (by assumption) ?_
  rotate_left
  · intro wz hSw; (try dsimp only at hSw); go_simp; try (with_reducible rfl)
  try simp only [Act.put, List.setIfInBounds_toArray, List.set_cons_zero, List.set_cons_succ]
  refine tail_take (i := 9) (oi := { dst := some 12, op := Go.Op.fieldAddr 43 (Go.Operand.tmp 11) 2, type := 0, pos := "law.go:25", after := #[{ on := 8, ground := Go.Ground.data }], guard := none }) (v := ?_) rfl (by kernel_rfl) (by kernel_rfl) (by kernel_rfl) (by kernel_rfl) (fun _ _ _ h => h) (Or.inl ⟨rfl, ?_⟩) (by assumption) ?_
  rotate_left
  · intro wz hSw; (try dsimp only at hSw); go_simp; try (with_reducible rfl)
  try simp only [Act.put, List.setIfInBounds_toArray, List.set_cons_zero, List.set_cons_succ]
  refine tail_take (i := 10) (oi := { dst := some 13, op := Go.Op.load 3 (Go.Operand.tmp 12), type := 3, pos := "law.go:25", after := #[{ on := 9, ground := Go.Ground.data }], guard := none }) (v := ?_) rfl (by kernel_rfl) (by kernel_rfl) (by kernel_rfl) (by kernel_rfl) (fun _ _ _ h => h) (Or.inl ⟨rfl, ?_⟩) (by assumption) ?_
  rotate_left
  · intro wz hSw; (try dsimp only at hSw); go_simp; try (with_reducible rfl)
  try simp only [Act.put, List.setIfInBounds_toArray, List.set_cons_zero, List.set_cons_succ]
  refine tail_take (i := 11) (oi := { dst := some 14, op := Go.Op.build 26 #[(0, Go.Operand.tmp 7), (1, Go.Operand.tmp 10), (2, Go.Operand.tmp 13)], type := 26, pos := "law.go:25", after := #[{ on := 4, ground := Go.Ground.data }, { on := 7, ground := Go.Ground.data }, { on := 10, ground := Go.Ground.data }], guard := none }) (v := ?_) rfl (by kernel_rfl) (by kernel_rfl) (by kernel_rfl) (by kernel_rfl) (fun _ _ _ h => h) (Or.inl ⟨rfl, ?_⟩) (by assumption) ?_
  rotate_left
  · intro wz hSw; (try dsimp only at hSw); go_simp; try (with_reducible rfl)
  try simp only [Act.put, List.setIfInBounds_toArray, List.set_cons_zero, List.set_cons_succ]
  refine tail_take (i := 12) (oi := { dst := some 15, op := Go.Op.fieldAddr 46 (Go.Operand.tmp 1) 2, type := 0, pos := "law.go:25", after := #[], guard := none }) (v := ?_) rfl (by kernel_rfl) (by kernel_rfl) (by kernel_rfl) (by kernel_rfl) (fun _ _ _ h => h) (Or.inl ⟨rfl, ?_⟩) (by assumption) ?_
  rotate_left
  · intro wz hSw; (try dsimp only at hSw); go_simp; try (with_reducible rfl)
  try simp only [Act.put, List.setIfInBounds_toArray, List.set_cons_zero, List.set_cons_succ]
  refine tail_take (i := 13) (oi := { dst := some 16, op := Go.Op.load 4 (Go.Operand.tmp 15), type := 4, pos := "law.go:25", after := #[{ on := 12, ground := Go.Ground.data }], guard := none }) (v := ?_) rfl (by kernel_rfl) (by kernel_rfl) (by kernel_rfl) (by kernel_rfl) (fun _ _ _ h => h) (Or.inl ⟨rfl, ?_⟩) (by assumption) ?_
  rotate_left
  · intro wz hSw; (try dsimp only at hSw); go_simp; try (with_reducible rfl)
  try simp only [Act.put, List.setIfInBounds_toArray, List.set_cons_zero, List.set_cons_succ]
  refine tail_take (i := 14) (oi := { dst := some 17, op := Go.Op.fieldAddr 46 (Go.Operand.tmp 1) 3, type := 0, pos := "law.go:25", after := #[], guard := none }) (v := ?_) rfl (by kernel_rfl) (by kernel_rfl) (by kernel_rfl) (by kernel_rfl) (fun _ _ _ h => h) (Or.inl ⟨rfl, ?_⟩) (by assumption) ?_
  rotate_left
  · intro wz hSw; (try dsimp only at hSw); go_simp; try (with_reducible rfl)
  try simp only [Act.put, List.setIfInBounds_toArray, List.set_cons_zero, List.set_cons_succ]
  refine tail_take (i := 15) (oi := { dst := some 18, op := Go.Op.load 44 (Go.Operand.tmp 17), type := 44, pos := "law.go:25", after := #[{ on := 14, ground := Go.Ground.data }], guard := none }) (v := ?_) rfl (by kernel_rfl) (by kernel_rfl) (by kernel_rfl) (by kernel_rfl) (fun _ _ _ h => h) (Or.inl ⟨rfl, ?_⟩) (by assumption) ?_
  rotate_left
  · intro wz hSw; (try dsimp only at hSw); go_simp; try (with_reducible rfl)
  try simp only [Act.put, List.setIfInBounds_toArray, List.set_cons_zero, List.set_cons_succ]
  refine tail_take (i := 17) (oi := { dst := some 20, op := Go.Op.fieldAddr 46 (Go.Operand.tmp 1) 4, type := 0, pos := "law.go:25", after := #[], guard := none }) (v := ?_) rfl (by kernel_rfl) (by kernel_rfl) (by kernel_rfl) (by kernel_rfl) (fun _ _ _ h => h) (Or.inl ⟨rfl, ?_⟩) (by assumption) ?_
  rotate_left
  · intro wz hSw; (try dsimp only at hSw); go_simp; try (with_reducible rfl)
  try simp only [Act.put, List.setIfInBounds_toArray, List.set_cons_zero, List.set_cons_succ]
  refine tail_take (i := 18) (oi := { dst := some 21, op := Go.Op.load 9 (Go.Operand.tmp 20), type := 9, pos := "law.go:25", after := #[{ on := 17, ground := Go.Ground.data }], guard := none }) (v := ?_) rfl (by kernel_rfl) (by kernel_rfl) (by kernel_rfl) (by kernel_rfl) (fun _ _ _ h => h) (Or.inl ⟨rfl, ?_⟩) (by assumption) ?_
  rotate_left
  · intro wz hSw; (try dsimp only at hSw); go_simp; try (with_reducible rfl)
  try simp only [Act.put, List.setIfInBounds_toArray, List.set_cons_zero, List.set_cons_succ]
  refine tail_take (i := 19) (oi := { dst := some 22, op := Go.Op.fieldAddr 46 (Go.Operand.tmp 1) 5, type := 0, pos := "law.go:25", after := #[], guard := none }) (v := ?_) rfl (by kernel_rfl) (by kernel_rfl) (by kernel_rfl) (by kernel_rfl) (fun _ _ _ h => h) (Or.inl ⟨rfl, ?_⟩) (by assumption) ?_
  rotate_left
  · intro wz hSw; (try dsimp only at hSw); go_simp; try (with_reducible rfl)
  try simp only [Act.put, List.setIfInBounds_toArray, List.set_cons_zero, List.set_cons_succ]
  refine tail_take (i := 20) (oi := { dst := some 23, op := Go.Op.load 4 (Go.Operand.tmp 22), type := 4, pos := "law.go:25", after := #[{ on := 19, ground := Go.Ground.data }], guard := none }) (v := ?_) rfl (by kernel_rfl) (by kernel_rfl) (by kernel_rfl) (by kernel_rfl) (fun _ _ _ h => h) (Or.inl ⟨rfl, ?_⟩) (by assumption) ?_
  rotate_left
  · intro wz hSw; (try dsimp only at hSw); go_simp; try (with_reducible rfl)
  try simp only [Act.put, List.setIfInBounds_toArray, List.set_cons_zero, List.set_cons_succ]
  refine tail_call (i := 16) (o := { dst := some 19, op := Go.Op.call { callee := Go.Callee.value (Go.Operand.func 44), args := #[Go.Operand.tmp 18], argTypes := #[44] }, type := 24, pos := "law.go:25", after := #[{ on := 15, ground := Go.Ground.data }], guard := none }) (by kernel_rfl) (by kernel_rfl) rfl (fun K hK => ?_)
  go_simp
  go_at_call 44
  refine (HP.out _).mono ?_
  rintro e w1 ⟨rfl, hb⟩
  replace k0 := (hb.cell (p := ⟨w.heap.size, 0, none⟩) kz).trans k0
  replace kf0 := (hb.frozen (p := ⟨w.heap.size, 0, none⟩) kz).trans kf0
  replace k1 := (hb.cell (p := ⟨w.heap.size, 1, none⟩) kz).trans k1
  replace kf1 := (hb.frozen (p := ⟨w.heap.size, 1, none⟩) kz).trans kf1
  replace k2 := (hb.cell (p := ⟨w.heap.size, 2, none⟩) kz).trans k2
  replace kf2 := (hb.frozen (p := ⟨w.heap.size, 2, none⟩) kz).trans kf2
  replace k3 := (hb.cell (p := ⟨w.heap.size, 3, none⟩) kz).trans k3
  replace kf3 := (hb.frozen (p := ⟨w.heap.size, 3, none⟩) kz).trans kf3
  replace k4 := (hb.cell (p := ⟨w.heap.size, 4, none⟩) kz).trans k4
  replace kf4 := (hb.frozen (p := ⟨w.heap.size, 4, none⟩) kz).trans kf4
  replace k5 := (hb.cell (p := ⟨w.heap.size, 5, none⟩) kz).trans k5
  replace kf5 := (hb.frozen (p := ⟨w.heap.size, 5, none⟩) kz).trans kf5
  replace k6 := (hb.cell (p := ⟨w.heap.size, 6, none⟩) kz).trans k6
  replace kf6 := (hb.frozen (p := ⟨w.heap.size, 6, none⟩) kz).trans kf6
  replace k7 := (hb.cell (p := ⟨w.heap.size, 7, none⟩) kz).trans k7
  replace kf7 := (hb.frozen (p := ⟨w.heap.size, 7, none⟩) kz).trans kf7
  replace kz := Nat.lt_of_lt_of_le kz hb.size
  replace z0 := (hb.cell (p := ⟨w.heap.size + 1, 0, none⟩) zz).trans z0
  replace zf0 := (hb.frozen (p := ⟨w.heap.size + 1, 0, none⟩) zz).trans zf0
  replace z1 := (hb.cell (p := ⟨w.heap.size + 1, 1, none⟩) zz).trans z1
  replace zf1 := (hb.frozen (p := ⟨w.heap.size + 1, 1, none⟩) zz).trans zf1
  replace z2 := (hb.cell (p := ⟨w.heap.size + 1, 2, none⟩) zz).trans z2
  replace zf2 := (hb.frozen (p := ⟨w.heap.size + 1, 2, none⟩) zz).trans zf2
  replace z3 := (hb.cell (p := ⟨w.heap.size + 1, 3, none⟩) zz).trans z3
  replace zf3 := (hb.frozen (p := ⟨w.heap.size + 1, 3, none⟩) zz).trans zf3
  replace z4 := (hb.cell (p := ⟨w.heap.size + 1, 4, none⟩) zz).trans z4
  replace zf4 := (hb.frozen (p := ⟨w.heap.size + 1, 4, none⟩) zz).trans zf4
  replace z5 := (hb.cell (p := ⟨w.heap.size + 1, 5, none⟩) zz).trans z5
  replace zf5 := (hb.frozen (p := ⟨w.heap.size + 1, 5, none⟩) zz).trans zf5
  replace z6 := (hb.cell (p := ⟨w.heap.size + 1, 6, none⟩) zz).trans z6
  replace zf6 := (hb.frozen (p := ⟨w.heap.size + 1, 6, none⟩) zz).trans zf6
  replace z7 := (hb.cell (p := ⟨w.heap.size + 1, 7, none⟩) zz).trans z7
  replace zf7 := (hb.frozen (p := ⟨w.heap.size + 1, 7, none⟩) zz).trans zf7
  replace z8 := (hb.cell (p := ⟨w.heap.size + 1, 8, none⟩) zz).trans z8
  replace zf8 := (hb.frozen (p := ⟨w.heap.size + 1, 8, none⟩) zz).trans zf8
  replace zz := Nat.lt_of_lt_of_le zz hb.size
  replace HB := Lib.hid (below_via HB.out hb HB.out.size ⟨rfl, rfl, rfl, rfl⟩)
  clear hb
  refine hK.out _ _ ⟨k0, k1, k2, k3, k4, k5, k6, k7⟩ (fun hHeld => ?_)
  clear hK K
  try simp only [Act.put, List.setIfInBounds_toArray, List.set_cons_zero, List.set_cons_succ]
  refine tail_take (i := 21) (oi := { dst := some 24, op := Go.Op.build 28 #[(0, Go.Operand.tmp 4), (1, Go.Operand.tmp 14), (2, Go.Operand.tmp 16), (3, Go.Operand.tmp 19), (4, Go.Operand.tmp 21), (5, Go.Operand.tmp 23)], type := 28, pos := "law.go:25", after := #[{ on := 1, ground := Go.Ground.data }, { on := 11, ground := Go.Ground.data }, { on := 13, ground := Go.Ground.data }, { on := 16, ground := Go.Ground.data }, { on := 18, ground := Go.Ground.data }, { on := 20, ground := Go.Ground.data }], guard := none }) (v := ?_) rfl (by kernel_rfl) (by kernel_rfl) (by kernel_rfl) (by kernel_rfl) (fun _ _ _ h => h) (Or.inl ⟨rfl, ?_⟩) (by assumption) ?_
  rotate_left
  · intro wz hSw; (try dsimp only at hSw); go_simp; try (with_reducible rfl)
  try simp only [Act.put, List.setIfInBounds_toArray, List.set_cons_zero, List.set_cons_succ]
  refine tail_last (o := { dst := none, op := Go.Op.store 28 (Go.Operand.tmp 2) (Go.Operand.tmp 24), type := 0, pos := "law.go:25", after := #[{ on := 21, ground := Go.Ground.data }, { on := 16, ground := Go.Ground.chain }, { on := 0, ground := Go.Ground.phase }, { on := 1, ground := Go.Ground.phase }, { on := 2, ground := Go.Ground.phase }, { on := 3, ground := Go.Ground.phase }, { on := 4, ground := Go.Ground.phase }, { on := 5, ground := Go.Ground.phase }, { on := 6, ground := Go.Ground.phase }, { on := 7, ground := Go.Ground.phase }, { on := 8, ground := Go.Ground.phase }, { on := 9, ground := Go.Ground.phase }, { on := 10, ground := Go.Ground.phase }, { on := 11, ground := Go.Ground.phase }, { on := 12, ground := Go.Ground.phase }, { on := 13, ground := Go.Ground.phase }, { on := 14, ground := Go.Ground.phase }, { on := 15, ground := Go.Ground.phase }, { on := 16, ground := Go.Ground.phase }, { on := 17, ground := Go.Ground.phase }, { on := 18, ground := Go.Ground.phase }, { on := 19, ground := Go.Ground.phase }, { on := 20, ground := Go.Ground.phase }, { on := 21, ground := Go.Ground.phase }], guard := none }) (by kernel_rfl) (by kernel_rfl) rfl (fun K hK => ?_)
  go_simp
  clear hHeld
  clear k0 kf0 k1 kf1 k2 kf2 k3 kf3 k4 kf4 k5 kf5 k6 kf6 k7 kf7 kz
  replace z0 : (((((((((w1.setCell ⟨w.heap.size + 1, 0, none⟩ (.int .i64 key)).setCell ⟨w.heap.size + 1, 1, none⟩ (.string d)).setCell ⟨w.heap.size + 1, 2, none⟩ (.int .i64 a)).setCell ⟨w.heap.size + 1, 3, none⟩ (.int .i64 s)).setCell ⟨w.heap.size + 1, 4, none⟩ (.bool dead)).setCell ⟨w.heap.size + 1, 5, none⟩ (.int .i64 x)).setCell ⟨w.heap.size + 1, 6, none⟩ (.int .i64 y)).setCell ⟨w.heap.size + 1, 7, none⟩ (.string text)).setCell ⟨w.heap.size + 1, 8, none⟩ (.bool held)).cell? ⟨w.heap.size + 1, 0, none⟩ = some (.int .i64 key) := by simp [go_sem, z0]
  replace zf0 : (((((((((w1.setCell ⟨w.heap.size + 1, 0, none⟩ (.int .i64 key)).setCell ⟨w.heap.size + 1, 1, none⟩ (.string d)).setCell ⟨w.heap.size + 1, 2, none⟩ (.int .i64 a)).setCell ⟨w.heap.size + 1, 3, none⟩ (.int .i64 s)).setCell ⟨w.heap.size + 1, 4, none⟩ (.bool dead)).setCell ⟨w.heap.size + 1, 5, none⟩ (.int .i64 x)).setCell ⟨w.heap.size + 1, 6, none⟩ (.int .i64 y)).setCell ⟨w.heap.size + 1, 7, none⟩ (.string text)).setCell ⟨w.heap.size + 1, 8, none⟩ (.bool held)).frozen? ⟨w.heap.size + 1, 0, none⟩ = false := by simp [go_sem, zf0]
  replace z1 : (((((((((w1.setCell ⟨w.heap.size + 1, 0, none⟩ (.int .i64 key)).setCell ⟨w.heap.size + 1, 1, none⟩ (.string d)).setCell ⟨w.heap.size + 1, 2, none⟩ (.int .i64 a)).setCell ⟨w.heap.size + 1, 3, none⟩ (.int .i64 s)).setCell ⟨w.heap.size + 1, 4, none⟩ (.bool dead)).setCell ⟨w.heap.size + 1, 5, none⟩ (.int .i64 x)).setCell ⟨w.heap.size + 1, 6, none⟩ (.int .i64 y)).setCell ⟨w.heap.size + 1, 7, none⟩ (.string text)).setCell ⟨w.heap.size + 1, 8, none⟩ (.bool held)).cell? ⟨w.heap.size + 1, 1, none⟩ = some (.string d) := by simp [go_sem, z1]
  replace zf1 : (((((((((w1.setCell ⟨w.heap.size + 1, 0, none⟩ (.int .i64 key)).setCell ⟨w.heap.size + 1, 1, none⟩ (.string d)).setCell ⟨w.heap.size + 1, 2, none⟩ (.int .i64 a)).setCell ⟨w.heap.size + 1, 3, none⟩ (.int .i64 s)).setCell ⟨w.heap.size + 1, 4, none⟩ (.bool dead)).setCell ⟨w.heap.size + 1, 5, none⟩ (.int .i64 x)).setCell ⟨w.heap.size + 1, 6, none⟩ (.int .i64 y)).setCell ⟨w.heap.size + 1, 7, none⟩ (.string text)).setCell ⟨w.heap.size + 1, 8, none⟩ (.bool held)).frozen? ⟨w.heap.size + 1, 1, none⟩ = false := by simp [go_sem, zf1]
  replace z2 : (((((((((w1.setCell ⟨w.heap.size + 1, 0, none⟩ (.int .i64 key)).setCell ⟨w.heap.size + 1, 1, none⟩ (.string d)).setCell ⟨w.heap.size + 1, 2, none⟩ (.int .i64 a)).setCell ⟨w.heap.size + 1, 3, none⟩ (.int .i64 s)).setCell ⟨w.heap.size + 1, 4, none⟩ (.bool dead)).setCell ⟨w.heap.size + 1, 5, none⟩ (.int .i64 x)).setCell ⟨w.heap.size + 1, 6, none⟩ (.int .i64 y)).setCell ⟨w.heap.size + 1, 7, none⟩ (.string text)).setCell ⟨w.heap.size + 1, 8, none⟩ (.bool held)).cell? ⟨w.heap.size + 1, 2, none⟩ = some (.int .i64 a) := by simp [go_sem, z2]
  replace zf2 : (((((((((w1.setCell ⟨w.heap.size + 1, 0, none⟩ (.int .i64 key)).setCell ⟨w.heap.size + 1, 1, none⟩ (.string d)).setCell ⟨w.heap.size + 1, 2, none⟩ (.int .i64 a)).setCell ⟨w.heap.size + 1, 3, none⟩ (.int .i64 s)).setCell ⟨w.heap.size + 1, 4, none⟩ (.bool dead)).setCell ⟨w.heap.size + 1, 5, none⟩ (.int .i64 x)).setCell ⟨w.heap.size + 1, 6, none⟩ (.int .i64 y)).setCell ⟨w.heap.size + 1, 7, none⟩ (.string text)).setCell ⟨w.heap.size + 1, 8, none⟩ (.bool held)).frozen? ⟨w.heap.size + 1, 2, none⟩ = false := by simp [go_sem, zf2]
  replace z3 : (((((((((w1.setCell ⟨w.heap.size + 1, 0, none⟩ (.int .i64 key)).setCell ⟨w.heap.size + 1, 1, none⟩ (.string d)).setCell ⟨w.heap.size + 1, 2, none⟩ (.int .i64 a)).setCell ⟨w.heap.size + 1, 3, none⟩ (.int .i64 s)).setCell ⟨w.heap.size + 1, 4, none⟩ (.bool dead)).setCell ⟨w.heap.size + 1, 5, none⟩ (.int .i64 x)).setCell ⟨w.heap.size + 1, 6, none⟩ (.int .i64 y)).setCell ⟨w.heap.size + 1, 7, none⟩ (.string text)).setCell ⟨w.heap.size + 1, 8, none⟩ (.bool held)).cell? ⟨w.heap.size + 1, 3, none⟩ = some (.int .i64 s) := by simp [go_sem, z3]
  replace zf3 : (((((((((w1.setCell ⟨w.heap.size + 1, 0, none⟩ (.int .i64 key)).setCell ⟨w.heap.size + 1, 1, none⟩ (.string d)).setCell ⟨w.heap.size + 1, 2, none⟩ (.int .i64 a)).setCell ⟨w.heap.size + 1, 3, none⟩ (.int .i64 s)).setCell ⟨w.heap.size + 1, 4, none⟩ (.bool dead)).setCell ⟨w.heap.size + 1, 5, none⟩ (.int .i64 x)).setCell ⟨w.heap.size + 1, 6, none⟩ (.int .i64 y)).setCell ⟨w.heap.size + 1, 7, none⟩ (.string text)).setCell ⟨w.heap.size + 1, 8, none⟩ (.bool held)).frozen? ⟨w.heap.size + 1, 3, none⟩ = false := by simp [go_sem, zf3]
  replace z4 : (((((((((w1.setCell ⟨w.heap.size + 1, 0, none⟩ (.int .i64 key)).setCell ⟨w.heap.size + 1, 1, none⟩ (.string d)).setCell ⟨w.heap.size + 1, 2, none⟩ (.int .i64 a)).setCell ⟨w.heap.size + 1, 3, none⟩ (.int .i64 s)).setCell ⟨w.heap.size + 1, 4, none⟩ (.bool dead)).setCell ⟨w.heap.size + 1, 5, none⟩ (.int .i64 x)).setCell ⟨w.heap.size + 1, 6, none⟩ (.int .i64 y)).setCell ⟨w.heap.size + 1, 7, none⟩ (.string text)).setCell ⟨w.heap.size + 1, 8, none⟩ (.bool held)).cell? ⟨w.heap.size + 1, 4, none⟩ = some (.bool dead) := by simp [go_sem, z4]
  replace zf4 : (((((((((w1.setCell ⟨w.heap.size + 1, 0, none⟩ (.int .i64 key)).setCell ⟨w.heap.size + 1, 1, none⟩ (.string d)).setCell ⟨w.heap.size + 1, 2, none⟩ (.int .i64 a)).setCell ⟨w.heap.size + 1, 3, none⟩ (.int .i64 s)).setCell ⟨w.heap.size + 1, 4, none⟩ (.bool dead)).setCell ⟨w.heap.size + 1, 5, none⟩ (.int .i64 x)).setCell ⟨w.heap.size + 1, 6, none⟩ (.int .i64 y)).setCell ⟨w.heap.size + 1, 7, none⟩ (.string text)).setCell ⟨w.heap.size + 1, 8, none⟩ (.bool held)).frozen? ⟨w.heap.size + 1, 4, none⟩ = false := by simp [go_sem, zf4]
  replace z5 : (((((((((w1.setCell ⟨w.heap.size + 1, 0, none⟩ (.int .i64 key)).setCell ⟨w.heap.size + 1, 1, none⟩ (.string d)).setCell ⟨w.heap.size + 1, 2, none⟩ (.int .i64 a)).setCell ⟨w.heap.size + 1, 3, none⟩ (.int .i64 s)).setCell ⟨w.heap.size + 1, 4, none⟩ (.bool dead)).setCell ⟨w.heap.size + 1, 5, none⟩ (.int .i64 x)).setCell ⟨w.heap.size + 1, 6, none⟩ (.int .i64 y)).setCell ⟨w.heap.size + 1, 7, none⟩ (.string text)).setCell ⟨w.heap.size + 1, 8, none⟩ (.bool held)).cell? ⟨w.heap.size + 1, 5, none⟩ = some (.int .i64 x) := by simp [go_sem, z5]
  replace zf5 : (((((((((w1.setCell ⟨w.heap.size + 1, 0, none⟩ (.int .i64 key)).setCell ⟨w.heap.size + 1, 1, none⟩ (.string d)).setCell ⟨w.heap.size + 1, 2, none⟩ (.int .i64 a)).setCell ⟨w.heap.size + 1, 3, none⟩ (.int .i64 s)).setCell ⟨w.heap.size + 1, 4, none⟩ (.bool dead)).setCell ⟨w.heap.size + 1, 5, none⟩ (.int .i64 x)).setCell ⟨w.heap.size + 1, 6, none⟩ (.int .i64 y)).setCell ⟨w.heap.size + 1, 7, none⟩ (.string text)).setCell ⟨w.heap.size + 1, 8, none⟩ (.bool held)).frozen? ⟨w.heap.size + 1, 5, none⟩ = false := by simp [go_sem, zf5]
  replace z6 : (((((((((w1.setCell ⟨w.heap.size + 1, 0, none⟩ (.int .i64 key)).setCell ⟨w.heap.size + 1, 1, none⟩ (.string d)).setCell ⟨w.heap.size + 1, 2, none⟩ (.int .i64 a)).setCell ⟨w.heap.size + 1, 3, none⟩ (.int .i64 s)).setCell ⟨w.heap.size + 1, 4, none⟩ (.bool dead)).setCell ⟨w.heap.size + 1, 5, none⟩ (.int .i64 x)).setCell ⟨w.heap.size + 1, 6, none⟩ (.int .i64 y)).setCell ⟨w.heap.size + 1, 7, none⟩ (.string text)).setCell ⟨w.heap.size + 1, 8, none⟩ (.bool held)).cell? ⟨w.heap.size + 1, 6, none⟩ = some (.int .i64 y) := by simp [go_sem, z6]
  replace zf6 : (((((((((w1.setCell ⟨w.heap.size + 1, 0, none⟩ (.int .i64 key)).setCell ⟨w.heap.size + 1, 1, none⟩ (.string d)).setCell ⟨w.heap.size + 1, 2, none⟩ (.int .i64 a)).setCell ⟨w.heap.size + 1, 3, none⟩ (.int .i64 s)).setCell ⟨w.heap.size + 1, 4, none⟩ (.bool dead)).setCell ⟨w.heap.size + 1, 5, none⟩ (.int .i64 x)).setCell ⟨w.heap.size + 1, 6, none⟩ (.int .i64 y)).setCell ⟨w.heap.size + 1, 7, none⟩ (.string text)).setCell ⟨w.heap.size + 1, 8, none⟩ (.bool held)).frozen? ⟨w.heap.size + 1, 6, none⟩ = false := by simp [go_sem, zf6]
  replace z7 : (((((((((w1.setCell ⟨w.heap.size + 1, 0, none⟩ (.int .i64 key)).setCell ⟨w.heap.size + 1, 1, none⟩ (.string d)).setCell ⟨w.heap.size + 1, 2, none⟩ (.int .i64 a)).setCell ⟨w.heap.size + 1, 3, none⟩ (.int .i64 s)).setCell ⟨w.heap.size + 1, 4, none⟩ (.bool dead)).setCell ⟨w.heap.size + 1, 5, none⟩ (.int .i64 x)).setCell ⟨w.heap.size + 1, 6, none⟩ (.int .i64 y)).setCell ⟨w.heap.size + 1, 7, none⟩ (.string text)).setCell ⟨w.heap.size + 1, 8, none⟩ (.bool held)).cell? ⟨w.heap.size + 1, 7, none⟩ = some (.string text) := by simp [go_sem, z7]
  replace zf7 : (((((((((w1.setCell ⟨w.heap.size + 1, 0, none⟩ (.int .i64 key)).setCell ⟨w.heap.size + 1, 1, none⟩ (.string d)).setCell ⟨w.heap.size + 1, 2, none⟩ (.int .i64 a)).setCell ⟨w.heap.size + 1, 3, none⟩ (.int .i64 s)).setCell ⟨w.heap.size + 1, 4, none⟩ (.bool dead)).setCell ⟨w.heap.size + 1, 5, none⟩ (.int .i64 x)).setCell ⟨w.heap.size + 1, 6, none⟩ (.int .i64 y)).setCell ⟨w.heap.size + 1, 7, none⟩ (.string text)).setCell ⟨w.heap.size + 1, 8, none⟩ (.bool held)).frozen? ⟨w.heap.size + 1, 7, none⟩ = false := by simp [go_sem, zf7]
  replace z8 : (((((((((w1.setCell ⟨w.heap.size + 1, 0, none⟩ (.int .i64 key)).setCell ⟨w.heap.size + 1, 1, none⟩ (.string d)).setCell ⟨w.heap.size + 1, 2, none⟩ (.int .i64 a)).setCell ⟨w.heap.size + 1, 3, none⟩ (.int .i64 s)).setCell ⟨w.heap.size + 1, 4, none⟩ (.bool dead)).setCell ⟨w.heap.size + 1, 5, none⟩ (.int .i64 x)).setCell ⟨w.heap.size + 1, 6, none⟩ (.int .i64 y)).setCell ⟨w.heap.size + 1, 7, none⟩ (.string text)).setCell ⟨w.heap.size + 1, 8, none⟩ (.bool held)).cell? ⟨w.heap.size + 1, 8, none⟩ = some (.bool held) := by simp [go_sem, z8]
  replace zf8 : (((((((((w1.setCell ⟨w.heap.size + 1, 0, none⟩ (.int .i64 key)).setCell ⟨w.heap.size + 1, 1, none⟩ (.string d)).setCell ⟨w.heap.size + 1, 2, none⟩ (.int .i64 a)).setCell ⟨w.heap.size + 1, 3, none⟩ (.int .i64 s)).setCell ⟨w.heap.size + 1, 4, none⟩ (.bool dead)).setCell ⟨w.heap.size + 1, 5, none⟩ (.int .i64 x)).setCell ⟨w.heap.size + 1, 6, none⟩ (.int .i64 y)).setCell ⟨w.heap.size + 1, 7, none⟩ (.string text)).setCell ⟨w.heap.size + 1, 8, none⟩ (.bool held)).frozen? ⟨w.heap.size + 1, 8, none⟩ = false := by simp [go_sem, zf8]
  replace zz : w.heap.size + 1 < (((((((((w1.setCell ⟨w.heap.size + 1, 0, none⟩ (.int .i64 key)).setCell ⟨w.heap.size + 1, 1, none⟩ (.string d)).setCell ⟨w.heap.size + 1, 2, none⟩ (.int .i64 a)).setCell ⟨w.heap.size + 1, 3, none⟩ (.int .i64 s)).setCell ⟨w.heap.size + 1, 4, none⟩ (.bool dead)).setCell ⟨w.heap.size + 1, 5, none⟩ (.int .i64 x)).setCell ⟨w.heap.size + 1, 6, none⟩ (.int .i64 y)).setCell ⟨w.heap.size + 1, 7, none⟩ (.string text)).setCell ⟨w.heap.size + 1, 8, none⟩ (.bool held)).heap.size := by simp <;> omega
  replace HB : Hid (Below w.heap.size w (((((((((w1.setCell ⟨w.heap.size + 1, 0, none⟩ (.int .i64 key)).setCell ⟨w.heap.size + 1, 1, none⟩ (.string d)).setCell ⟨w.heap.size + 1, 2, none⟩ (.int .i64 a)).setCell ⟨w.heap.size + 1, 3, none⟩ (.int .i64 s)).setCell ⟨w.heap.size + 1, 4, none⟩ (.bool dead)).setCell ⟨w.heap.size + 1, 5, none⟩ (.int .i64 x)).setCell ⟨w.heap.size + 1, 6, none⟩ (.int .i64 y)).setCell ⟨w.heap.size + 1, 7, none⟩ (.string text)).setCell ⟨w.heap.size + 1, 8, none⟩ (.bool held))) := (((((((((HB.out.setCell (by simp) _).setCell (by simp) _).setCell (by simp) _).setCell (by simp) _).setCell (by simp) _).setCell (by simp) _).setCell (by simp) _).setCell (by simp) _).setCell (by simp) _)
  generalize (((((((((w1.setCell ⟨w.heap.size + 1, 0, none⟩ (.int .i64 key)).setCell ⟨w.heap.size + 1, 1, none⟩ (.string d)).setCell ⟨w.heap.size + 1, 2, none⟩ (.int .i64 a)).setCell ⟨w.heap.size + 1, 3, none⟩ (.int .i64 s)).setCell ⟨w.heap.size + 1, 4, none⟩ (.bool dead)).setCell ⟨w.heap.size + 1, 5, none⟩ (.int .i64 x)).setCell ⟨w.heap.size + 1, 6, none⟩ (.int .i64 y)).setCell ⟨w.heap.size + 1, 7, none⟩ (.string text)).setCell ⟨w.heap.size + 1, 8, none⟩ (.bool held)) = W9 at *
  refine hK.out _ _ ?_
  clear hK K
  try simp only [Act.put, List.setIfInBounds_toArray, List.set_cons_zero, List.set_cons_succ]
  go_wp2
  refine bodyPost_ret (v := .agg #[.int .i64 key, .string d, .int .i64 a, .int .i64 s, .bool dead, .int .i64 x, .int .i64 y, .string text, .bool held]) ?_ rfl ?_
  · simp [results, Try.results22, go_sem, z0, z1, z2, z3, z4, z5, z6, z7, z8]
  · exact ⟨rfl, HB.out⟩
end Go.Proofs.Ytpaiigminmakgaa
