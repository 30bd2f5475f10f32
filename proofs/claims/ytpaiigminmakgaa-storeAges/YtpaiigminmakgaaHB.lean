/- Texts La Le Ga Gb Pa Pb Pc Pm Pd, one behind the other. -/
import Derived.Test.YtpaiigminmakgaaHLh
import Derived.Laws.StructEq
import Derived.Test.YtpaiigminmakgaaProg
import Derived.ProofKit
import Derived.WalkKit
import Derived.Lib.Hide
import Derived.OwnWalk
import Derived.Maps.AppendAt
import Derived.Deep.AppendLies
import Derived.Deep.RegionLaw
import Derived.Deep.RegionHeld3
import Derived.Lib.AppendZerosOnto
import Derived.Lib.SliceRun
/- Items: when two are the same, as the program has them and as the document's answer has them; of Fix's and of a stub's. -/
namespace Go.Proofs.Ytpaiigminmakgaa
open Go.RowKit

def eqV (a b : Vrs) : Bool := (a.id.toList == b.id.toList) && ((a.seq == b.seq) && (a.stamp == b.stamp))
def eqI (i j : Itm) : Bool := (i.key == j.key) && (eqV i.ver j.ver && ((i.dead == j.dead) && (((i.x == j.x) && (i.y == j.y)) && ((i.text.toList == j.text.toList) && (i.held == j.held)))))
theorem toList_inj {a b : ByteArray} (h : a.toList = b.toList) : a = b := by
  rw [Lib.toList_data, Lib.toList_data] at h
  obtain ⟨⟨x⟩⟩ := a
  obtain ⟨⟨y⟩⟩ := b
  simpa using h
theorem eqV_iff (a b : Vrs) : eqV a b = true ↔ a = b := by
  obtain ⟨a1, a2, a3⟩ := a
  obtain ⟨b1, b2, b3⟩ := b
  simp only [eqV, Bool.and_eq_true, beq_iff_eq, Vrs.mk.injEq]
  exact ⟨fun h => ⟨toList_inj h.1, h.2⟩, fun h => ⟨by rw [h.1], h.2⟩⟩
theorem eqI_iff (i j : Itm) : eqI i j = true ↔ i = j := by
  obtain ⟨i1, i2, i3, i4, i5, i6, i7⟩ := i
  obtain ⟨j1, j2, j3, j4, j5, j6, j7⟩ := j
  simp only [eqI, Bool.and_eq_true, beq_iff_eq, Itm.mk.injEq, eqV_iff]
  exact ⟨fun h => ⟨h.1, h.2.1, h.2.2.1, h.2.2.2.1.1, h.2.2.2.1.2, toList_inj h.2.2.2.2.1, h.2.2.2.2.2⟩, fun h => ⟨h.1, h.2.1, h.2.2.1, ⟨h.2.2.2.1, h.2.2.2.2.1⟩, by rw [h.2.2.2.2.2.1], h.2.2.2.2.2.2⟩⟩
theorem eqI_same (i : Itm) : eqI i i = true := (eqI_iff i i).2 rfl

theorem ite_ok (p : Prop) [Decidable p] (a : Bool) (w : World) : (if p then Result.ok (Value.bool a) w else Result.ok (Value.bool false) w) = Result.ok (Value.bool (decide p && a)) w := by
  by_cases h : p <;> simp [h]
theorem ite_no (p : Prop) [Decidable p] (a : Bool) (w : World) : (if p then Result.ok (Value.bool false) w else Result.ok (Value.bool a) w) = Result.ok (Value.bool (decide (¬ p) && a)) w := by
  by_cases h : p <;> simp [h]
theorem run_equalIn_complex {P : Program} (w : World) (d : Nat) (t : TypeId) (k k' : FloatKind) (a b a' b' : Nat) (h : P.underlying t = some (.complex k')) : (Op.equalIn (d + 1) t (.complex k a b) (.complex k a' b')).run P w = .ok (Op.floatEq k a a' && Op.floatEq k b b') w := by
  simp [Op.equalIn, run_underlying h]
theorem floatEq_fl (a b : Int) (ha : a.natAbs < 2 ^ 53) (hb : b.natAbs < 2 ^ 53) : Op.floatEq .f64 (fl a) (fl b) = (a == b) := by
  unfold Op.floatEq
  rw [eql_fl a b ha hb]
  rfl

set_option maxRecDepth 100000 in
set_option maxHeartbeats 1000000 in
theorem eql_ref (i j : Itm) (w : World) : (binOp .eql 28 (refV i) (refV j)).run Try.prog w = .ok (.bool (eqI i j)) w := by
  obtain ⟨i1, ⟨d1, a1, s1⟩, i3, i4, i5, i6, i7⟩ := i
  obtain ⟨j1, ⟨d2, a2, s2⟩, j3, j4, j5, j6, j7⟩ := j
  unfold refV eqI eqV
  simp only
  rw [run_eql_struct]
  go_simp
  simp only [ite_ok]
  congr 2
  rw [Bool.eq_iff_iff]
  simp [and_assoc]

set_option maxRecDepth 100000 in
set_option maxHeartbeats 1000000 in
theorem eql_item (i j : Itm) (hi1 : i.x.natAbs < 2 ^ 53) (hi2 : i.y.natAbs < 2 ^ 53) (hj1 : j.x.natAbs < 2 ^ 53) (hj2 : j.y.natAbs < 2 ^ 53) (w : World) : (binOp .eql 46 (itmV i) (itmV j)).run Try.prog w = .ok (.bool (eqI i j)) w := by
  obtain ⟨i1, ⟨d1, a1, s1⟩, i3, i4, i5, i6, i7⟩ := i
  obtain ⟨j1, ⟨d2, a2, s2⟩, j3, j4, j5, j6, j7⟩ := j
  have e1 := floatEq_fl i4 j4 hi1 hj1
  have e2 := floatEq_fl i5 j5 hi2 hj2
  have hx := @run_equalIn_complex Try.prog
  unfold itmV eqI eqV
  simp only
  generalize fl i4 = f4 at *
  generalize fl i5 = f5 at *
  generalize fl j4 = g4 at *
  generalize fl j5 = g5 at *
  rw [run_eql_struct]
  go_simp
  simp only [ite_ok, ite_no]
  congr 2
  rw [Bool.eq_iff_iff]
  simp [and_assoc]

theorem zsize : (ByteArray.mk #[]).size = 0 := rfl
theorem keyF_in (n : Int) : 0 ≤ keyF n ∧ keyF n < 32 := by unfold keyF; omega
theorem cntF_in (n : Int) : 1 ≤ cntF n ∧ cntF n ≤ 60 := by unfold cntF; omega
theorem cutF_size (t : ByteArray) : (cutF t).size ≤ 16 := by unfold cutF; rw [ByteArray.size_extract]; omega
theorem fix_right (i : Itm) : rightI (fixI i) = true := by
  obtain ⟨key, ⟨d, a, s⟩, dead, x, y, text, held⟩ := i
  have h1 := keyF_in key
  have h2 := cntF_in a
  have h3 := cntF_in s
  have h4 := spotF_in x
  have h5 := spotF_in y
  have h6 := cutF_size text
  have h7 := fixL_right d.data.toList
  have c2 : countsF (cntF a) = true := by unfold countsF; simp; omega
  have c3 : countsF (cntF s) = true := by unfold countsF; simp; omega
  unfold fixI rightI rightV wholeF withinF
  simp only [c2, c3, h7]
  cases dead <;> cases held <;> simp [zsize] <;> omega
theorem right_small {i : Itm} (h : rightI i = true) : i.x.natAbs < 2 ^ 53 ∧ i.y.natAbs < 2 ^ 53 := by
  have h1 := whole_bounds (right_bounds h).2.2.2.1
  have : (2 : Nat) ^ 53 = 9007199254740992 := by decide
  omega
theorem stub_right {i : Itm} (h : rightI i = true) : rightI (stubI i) = true := by
  obtain ⟨key, v, dead, x, y, text, held⟩ := i
  unfold stubI rightI at *
  simp only [Bool.and_eq_true, Bool.not_eq_true'] at h ⊢
  obtain ⟨h1, h2, h3, h4, h5, h6, h7⟩ := h
  refine ⟨h1, h2, h3, h4, by simp [zsize], ?_, by simp [zsize]⟩
  cases dead <;> cases held <;> simp_all
theorem stub_stub (i : Itm) : stubI (stubI i) = stubI i := rfl
end Go.Proofs.Ytpaiigminmakgaa

/- near; the document's Whole, Right and Stub; From. -/
namespace Go.Proofs.Ytpaiigminmakgaa
open Go.RowKit

def nearF (x y : Int) : Bool := decide (x < 1099511627776) && (decide (-1099511627776 < x) && (decide (y < 1099511627776) && decide (-1099511627776 < y)))
theorem near_small {x y : Int} (h : nearF x y = true) : x.natAbs < 2 ^ 53 ∧ y.natAbs < 2 ^ 53 := by
  unfold nearF at h
  simp only [Bool.and_eq_true, decide_eq_true_eq] at h
  have : (2 : Nat) ^ 53 = 9007199254740992 := by decide
  omega
set_option maxRecDepth 100000 in
set_option maxHeartbeats 1000000 in
theorem rnear_any (n : Int) (w : World) : Calls Try.prog 76 #[.int .i64 n, .int .i64 1000] w fun e w' => e = .returned (.bool (withinF n (-1000) 1000)) ∧ w = w' := by
  have HC := Lib.hid (show withinF n (-1000) 1000 = (decide (-1000 ≤ n) && decide (n ≤ 1000)) from rfl)
  by_cases h1 : -1000 ≤ n
  · rw [decide_eq_true h1] at HC
    go_enter Try.func76, Try.ntmps76
    go_wp2
    go_ret
    exact ⟨ret_bool (by rw [HC.out]; rfl), rfl⟩
  · rw [decide_eq_false h1] at HC
    have h1' : decide (-1000 ≤ n) = false := by simpa using h1
    go_enter Try.func76, Try.ntmps76
    go_wp2
    go_ret
    exact ⟨ret_bool (by rw [HC.out]; rfl), rfl⟩
set_option maxRecDepth 100000 in
set_option maxHeartbeats 1000000 in
theorem rwhole_any (x y : Int) (w : World) : Calls Try.prog 59 #[.agg #[.int .i64 x, .int .i64 y]] w fun e w' => e = .returned (.bool (wholeF x y)) ∧ Below w.heap.size w w' := by
  have HC := Lib.hid (show wholeF x y = (withinF x (-1000) 1000 && withinF y (-1000) 1000) from rfl)
  have H1 := Lib.hid (rnear_any x)
  have H2 := Lib.hid (rnear_any y)
  generalize withinF x (-1000) 1000 = b1 at *
  generalize withinF y (-1000) 1000 = b2 at *
  go_enter Try.func59, Try.ntmps59
  go_wp2_with fail
  refine (H1.out _).mono ?_
  rintro e w1 ⟨rfl, rfl⟩
  cases b1
  · go_wp2
    go_ret
    exact ⟨ret_bool (by rw [HC.out]; rfl), (Below.refl _ _).alloc (Nat.le_refl _) _⟩
  · go_wp2_with fail
    refine (H2.out _).mono ?_
    rintro e w1 ⟨rfl, rfl⟩
    go_wp2
    go_ret
    exact ⟨ret_bool (by rw [HC.out]; rfl), (Below.refl _ _).alloc (Nat.le_refl _) _⟩
set_option maxRecDepth 100000 in
set_option maxHeartbeats 1000000 in
theorem refStub_any (i : Itm) (w : World) : Calls Try.prog 31 #[refV i] w fun e w' => e = .returned (refV (stubI i)) ∧ Below w.heap.size w w' := by
  obtain ⟨key, ⟨d, a, s⟩, dead, x, y, text, held⟩ := i
  unfold refV stubI
  simp only
  go_enter Try.func31, Try.ntmps31
  go_wp2
  refine bodyPost_ret (v := .agg #[.int .i64 key, .string d, .int .i64 a, .int .i64 s, .bool dead, .int .i64 x, .int .i64 y, .string ⟨#[]⟩, .bool false]) ?_ rfl ?_
  · simp [results, Try.results31, go_sem]
  · exact ⟨rfl, ((Below.refl _ _).alloc (Nat.le_refl _) _).alloc (by simp) _⟩
set_option maxRecDepth 100000 in
set_option maxHeartbeats 1000000 in
theorem place_any (x y : Int) (hx : x.natAbs < 2 ^ 53) (hy : y.natAbs < 2 ^ 53) (w : World) : Calls Try.prog 44 #[.complex .f64 (fl x) (fl y)] w fun e w' => e = .returned (.agg #[.int .i64 x, .int .i64 y]) ∧ Below w.heap.size w w' := by
  have c1 : ∀ w, (convert 109 3 (.float .f64 (fl x))).run Try.prog w = .ok (.int .i64 x) w := fun w => run_convert_float_int w 109 3 .f64 .i64 _ x (by kernel_rfl) Try.underlying3 (int_fl x hx)
  have c2 : ∀ w, (convert 109 3 (.float .f64 (fl y))).run Try.prog w = .ok (.int .i64 y) w := fun w => run_convert_float_int w 109 3 .f64 .i64 _ y (by kernel_rfl) Try.underlying3 (int_fl y hy)
  clear hx hy
  generalize fl x = fx at *
  generalize fl y = fy at *
  go_enter Try.func44, Try.ntmps44
  go_wp2
  refine bodyPost_ret (v := .agg #[.int .i64 x, .int .i64 y]) ?_ rfl ?_
  · simp [results, Try.results44, go_sem]
  · exact ⟨rfl, (Below.refl _ _).alloc (Nat.le_refl _) _⟩
set_option maxRecDepth 100000 in
set_option maxHeartbeats 4000000 in
theorem refRight_any (i : Itm) (w : World) : Calls Try.prog 34 #[refV i] w fun e w' => e = .returned (.bool (rightI i)) ∧ Below w.heap.size w w' := by
  obtain ⟨key, ⟨d, a, s⟩, dead, x, y, text, held⟩ := i
  have HC := Lib.hid (show rightI ⟨key, ⟨d, a, s⟩, dead, x, y, text, held⟩ = (decide (0 ≤ key) && (decide (key < 32) && ((rightL d.data.toList && ((decide (1 ≤ a) && decide (a ≤ 1048576)) && (decide (1 ≤ s) && decide (s ≤ 1048576)))) && (wholeF x y && (decide (text.size ≤ 16) && (!(dead && (!(decide (x = 0) && decide (y = 0)) || held)) && (held || decide (text.size = 0)))))))) from rfl)
  have H1 := Lib.hid (rright_any d)
  have H2 := Lib.hid (rwhole_any x y)
  unfold refV
  simp only
  generalize rightI ⟨key, ⟨d, a, s⟩, dead, x, y, text, held⟩ = R at *
  generalize rightL d.data.toList = b1 at *
  generalize wholeF x y = b2 at *
  have hz0 : ((text.size : Int) == 0) = decide (text.size = 0) := by rw [Bool.eq_iff_iff]; simp only [beq_iff_eq, decide_eq_true_eq]; omega
  have HZ := Lib.hid hz0
  clear hz0
  generalize decide (text.size = 0) = bz at HC HZ
  by_cases k0 : key < 0
  · rw [decide_eq_false (show ¬ 0 ≤ key by omega)] at HC
    go_enter Try.func34, Try.ntmps34
    go_wp2
    go_ret
    exact ⟨ret_bool (by rw [HC.out]; simp), (Below.refl _ _).alloc (Nat.le_refl _) _⟩
  rw [decide_eq_true (show 0 ≤ key by omega)] at HC
  have k0' : decide (key < 0) = false := by simpa using k0
  by_cases k1 : 31 < key
  · rw [decide_eq_false (show ¬ key < 32 by omega)] at HC
    go_enter Try.func34, Try.ntmps34
    go_wp2
    go_ret
    exact ⟨ret_bool (by rw [HC.out]; simp), (Below.refl _ _).alloc (Nat.le_refl _) _⟩
  rw [decide_eq_true (show key < 32 by omega)] at HC
  have k1' : decide (31 < key) = false := by simpa using k1
  go_enter Try.func34, Try.ntmps34
  go_wp2_with fail
  refine (H1.out _).mono ?_
  rintro e w1 ⟨rfl, rfl⟩
  have HB : Hid (Below w.heap.size w (w.alloc (.cells #[.int .i64 key, .string d, .int .i64 a, .int .i64 s, .bool dead, .int .i64 x, .int .i64 y, .string text, .bool held] 28))) := (Below.refl _ _).alloc (Nat.le_refl _) _
  cases b1
  · go_wp2
    go_ret
    exact ⟨ret_bool (by rw [HC.out]; simp), HB.out⟩
  by_cases k2 : a < 1
  · rw [decide_eq_false (show ¬ 1 ≤ a by omega)] at HC
    go_wp2
    go_ret
    exact ⟨ret_bool (by rw [HC.out]; simp), HB.out⟩
  rw [decide_eq_true (show 1 ≤ a by omega)] at HC
  have k2' : decide (a < 1) = false := by simpa using k2
  by_cases k2h : 1048576 < a
  · rw [decide_eq_false (show ¬ a ≤ 1048576 by omega)] at HC
    go_wp2
    go_ret
    exact ⟨ret_bool (by rw [HC.out]; simp), HB.out⟩
  rw [decide_eq_true (show a ≤ 1048576 by omega)] at HC
  have k2h' : decide (1048576 < a) = false := by simpa using k2h
  by_cases k3 : s < 1
  · rw [decide_eq_false (show ¬ 1 ≤ s by omega)] at HC
    go_wp2
    go_ret
    exact ⟨ret_bool (by rw [HC.out]; simp), HB.out⟩
  rw [decide_eq_true (show 1 ≤ s by omega)] at HC
  have k3' : decide (s < 1) = false := by simpa using k3
  by_cases k3h : 1048576 < s
  · rw [decide_eq_false (show ¬ s ≤ 1048576 by omega)] at HC
    go_wp2
    go_ret
    exact ⟨ret_bool (by rw [HC.out]; simp), HB.out⟩
  rw [decide_eq_true (show s ≤ 1048576 by omega)] at HC
  have k3h' : decide (1048576 < s) = false := by simpa using k3h
  go_wp2_with fail
  refine (H2.out _).mono ?_
  rintro e w2 ⟨rfl, hb⟩
  have q4 : w2.cell? ⟨w.heap.size, 4, none⟩ = some (.bool dead) := (hb.cell (by simp)).trans (by simp [go_sem])
  have q5 : w2.cell? ⟨w.heap.size, 5, none⟩ = some (.int .i64 x) := (hb.cell (by simp)).trans (by simp [go_sem])
  have q6 : w2.cell? ⟨w.heap.size, 6, none⟩ = some (.int .i64 y) := (hb.cell (by simp)).trans (by simp [go_sem])
  have q7 : w2.cell? ⟨w.heap.size, 7, none⟩ = some (.string text) := (hb.cell (by simp)).trans (by simp [go_sem])
  have q8 : w2.cell? ⟨w.heap.size, 8, none⟩ = some (.bool held) := (hb.cell (by simp)).trans (by simp [go_sem])
  replace HB := Lib.hid (HB.out.trans (hb.mono (by simp)))
  clear hb H1 H2 k0 k1 k2 k3 k2h k3h k0' k1' k2' k3' k2h' k3h'
  cases b2
  · go_wp2
    go_ret
    exact ⟨ret_bool (by rw [HC.out]; simp), HB.out⟩
  by_cases t16 : 16 < text.size
  · have t16' : (16 : Int) < text.size := by omega
    rw [decide_eq_false (show ¬ text.size ≤ 16 by omega)] at HC
    go_wp2
    go_ret
    exact ⟨ret_bool (by rw [HC.out]; simp), HB.out⟩
  have t16' : decide ((16 : Int) < text.size) = false := by simp; omega
  rw [decide_eq_true (show text.size ≤ 16 by omega)] at HC
  clear t16
  cases dead
  · cases held
    · go_wp2
      go_ret
      exact ⟨ret_bool (by rw [HC.out, HZ.out]; simp), HB.out⟩
    · go_wp2
      go_ret
      exact ⟨ret_bool (by rw [HC.out]; simp), HB.out⟩
  by_cases hx : x = 0
  · subst hx
    by_cases hy : y = 0
    · subst hy
      cases held
      · go_wp2
        go_ret
        exact ⟨ret_bool (by rw [HC.out, HZ.out]; simp), HB.out⟩
      · go_wp2
        go_ret
        exact ⟨ret_bool (by rw [HC.out]; simp), HB.out⟩
    · rw [decide_eq_false hy] at HC
      go_wp2
      go_ret
      exact ⟨ret_bool (by rw [HC.out]; simp), HB.out⟩
  rw [decide_eq_false hx] at HC
  go_wp2
  go_ret
  exact ⟨ret_bool (by rw [HC.out]; simp), HB.out⟩
set_option maxRecDepth 100000 in
set_option maxHeartbeats 1000000 in
theorem from_any (i : Itm) (hx : i.x.natAbs < 2 ^ 53) (hy : i.y.natAbs < 2 ^ 53) (w : World) : Calls Try.prog 22 #[itmV i] w fun e w' => e = .returned (refV i) ∧ Below w.heap.size w w' := by
  obtain ⟨key, ⟨d, a, s⟩, dead, x, y, text, held⟩ := i
  have HP := Lib.hid (place_any x y hx hy)
  unfold itmV refV
  simp only
  clear hx hy
  generalize fl x = fx at *
  generalize fl y = fy at *
  go_enter Try.func22, Try.ntmps22
  go_upto_region 1 with fail
  have k0 : ((w.alloc (.cells #[.int .i64 key, .string d, .int .i64 a, .int .i64 s, .bool dead, .complex .f64 fx fy, .string text, .bool held] 46)).alloc (.cells #[.int .i64 0, .string ⟨#[]⟩, .int .i64 0, .int .i64 0, .bool false, .int .i64 0, .int .i64 0, .string ⟨#[]⟩, .bool false] 28)).cell? ⟨w.heap.size, 0, none⟩ = some (.int .i64 key) := by simp [go_sem]
  have kf0 : ((w.alloc (.cells #[.int .i64 key, .string d, .int .i64 a, .int .i64 s, .bool dead, .complex .f64 fx fy, .string text, .bool held] 46)).alloc (.cells #[.int .i64 0, .string ⟨#[]⟩, .int .i64 0, .int .i64 0, .bool false, .int .i64 0, .int .i64 0, .string ⟨#[]⟩, .bool false] 28)).frozen? ⟨w.heap.size, 0, none⟩ = false := by simp [go_sem]
  have k1 : ((w.alloc (.cells #[.int .i64 key, .string d, .int .i64 a, .int .i64 s, .bool dead, .complex .f64 fx fy, .string text, .bool held] 46)).alloc (.cells #[.int .i64 0, .string ⟨#[]⟩, .int .i64 0, .int .i64 0, .bool false, .int .i64 0, .int .i64 0, .string ⟨#[]⟩, .bool false] 28)).cell? ⟨w.heap.size, 1, none⟩ = some (.string d) := by simp [go_sem]
  have kf1 : ((w.alloc (.cells #[.int .i64 key, .string d, .int .i64 a, .int .i64 s, .bool dead, .complex .f64 fx fy, .string text, .bool held] 46)).alloc (.cells #[.int .i64 0, .string ⟨#[]⟩, .int .i64 0, .int .i64 0, .bool false, .int .i64 0, .int .i64 0, .string ⟨#[]⟩, .bool false] 28)).frozen? ⟨w.heap.size, 1, none⟩ = false := by simp [go_sem]
  have k2 : ((w.alloc (.cells #[.int .i64 key, .string d, .int .i64 a, .int .i64 s, .bool dead, .complex .f64 fx fy, .string text, .bool held] 46)).alloc (.cells #[.int .i64 0, .string ⟨#[]⟩, .int .i64 0, .int .i64 0, .bool false, .int .i64 0, .int .i64 0, .string ⟨#[]⟩, .bool false] 28)).cell? ⟨w.heap.size, 2, none⟩ = some (.int .i64 a) := by simp [go_sem]
  have kf2 : ((w.alloc (.cells #[.int .i64 key, .string d, .int .i64 a, .int .i64 s, .bool dead, .complex .f64 fx fy, .string text, .bool held] 46)).alloc (.cells #[.int .i64 0, .string ⟨#[]⟩, .int .i64 0, .int .i64 0, .bool false, .int .i64 0, .int .i64 0, .string ⟨#[]⟩, .bool false] 28)).frozen? ⟨w.heap.size, 2, none⟩ = false := by simp [go_sem]
  have k3 : ((w.alloc (.cells #[.int .i64 key, .string d, .int .i64 a, .int .i64 s, .bool dead, .complex .f64 fx fy, .string text, .bool held] 46)).alloc (.cells #[.int .i64 0, .string ⟨#[]⟩, .int .i64 0, .int .i64 0, .bool false, .int .i64 0, .int .i64 0, .string ⟨#[]⟩, .bool false] 28)).cell? ⟨w.heap.size, 3, none⟩ = some (.int .i64 s) := by simp [go_sem]
  have kf3 : ((w.alloc (.cells #[.int .i64 key, .string d, .int .i64 a, .int .i64 s, .bool dead, .complex .f64 fx fy, .string text, .bool held] 46)).alloc (.cells #[.int .i64 0, .string ⟨#[]⟩, .int .i64 0, .int .i64 0, .bool false, .int .i64 0, .int .i64 0, .string ⟨#[]⟩, .bool false] 28)).frozen? ⟨w.heap.size, 3, none⟩ = false := by simp [go_sem]
  have k4 : ((w.alloc (.cells #[.int .i64 key, .string d, .int .i64 a, .int .i64 s, .bool dead, .complex .f64 fx fy, .string text, .bool held] 46)).alloc (.cells #[.int .i64 0, .string ⟨#[]⟩, .int .i64 0, .int .i64 0, .bool false, .int .i64 0, .int .i64 0, .string ⟨#[]⟩, .bool false] 28)).cell? ⟨w.heap.size, 4, none⟩ = some (.bool dead) := by simp [go_sem]
  have kf4 : ((w.alloc (.cells #[.int .i64 key, .string d, .int .i64 a, .int .i64 s, .bool dead, .complex .f64 fx fy, .string text, .bool held] 46)).alloc (.cells #[.int .i64 0, .string ⟨#[]⟩, .int .i64 0, .int .i64 0, .bool false, .int .i64 0, .int .i64 0, .string ⟨#[]⟩, .bool false] 28)).frozen? ⟨w.heap.size, 4, none⟩ = false := by simp [go_sem]
  have k5 : ((w.alloc (.cells #[.int .i64 key, .string d, .int .i64 a, .int .i64 s, .bool dead, .complex .f64 fx fy, .string text, .bool held] 46)).alloc (.cells #[.int .i64 0, .string ⟨#[]⟩, .int .i64 0, .int .i64 0, .bool false, .int .i64 0, .int .i64 0, .string ⟨#[]⟩, .bool false] 28)).cell? ⟨w.heap.size, 5, none⟩ = some (.complex .f64 fx fy) := by simp [go_sem]
  have kf5 : ((w.alloc (.cells #[.int .i64 key, .string d, .int .i64 a, .int .i64 s, .bool dead, .complex .f64 fx fy, .string text, .bool held] 46)).alloc (.cells #[.int .i64 0, .string ⟨#[]⟩, .int .i64 0, .int .i64 0, .bool false, .int .i64 0, .int .i64 0, .string ⟨#[]⟩, .bool false] 28)).frozen? ⟨w.heap.size, 5, none⟩ = false := by simp [go_sem]
  have k6 : ((w.alloc (.cells #[.int .i64 key, .string d, .int .i64 a, .int .i64 s, .bool dead, .complex .f64 fx fy, .string text, .bool held] 46)).alloc (.cells #[.int .i64 0, .string ⟨#[]⟩, .int .i64 0, .int .i64 0, .bool false, .int .i64 0, .int .i64 0, .string ⟨#[]⟩, .bool false] 28)).cell? ⟨w.heap.size, 6, none⟩ = some (.string text) := by simp [go_sem]
  have kf6 : ((w.alloc (.cells #[.int .i64 key, .string d, .int .i64 a, .int .i64 s, .bool dead, .complex .f64 fx fy, .string text, .bool held] 46)).alloc (.cells #[.int .i64 0, .string ⟨#[]⟩, .int .i64 0, .int .i64 0, .bool false, .int .i64 0, .int .i64 0, .string ⟨#[]⟩, .bool false] 28)).frozen? ⟨w.heap.size, 6, none⟩ = false := by simp [go_sem]
  have k7 : ((w.alloc (.cells #[.int .i64 key, .string d, .int .i64 a, .int .i64 s, .bool dead, .complex .f64 fx fy, .string text, .bool held] 46)).alloc (.cells #[.int .i64 0, .string ⟨#[]⟩, .int .i64 0, .int .i64 0, .bool false, .int .i64 0, .int .i64 0, .string ⟨#[]⟩, .bool false] 28)).cell? ⟨w.heap.size, 7, none⟩ = some (.bool held) := by simp [go_sem]
  have kf7 : ((w.alloc (.cells #[.int .i64 key, .string d, .int .i64 a, .int .i64 s, .bool dead, .complex .f64 fx fy, .string text, .bool held] 46)).alloc (.cells #[.int .i64 0, .string ⟨#[]⟩, .int .i64 0, .int .i64 0, .bool false, .int .i64 0, .int .i64 0, .string ⟨#[]⟩, .bool false] 28)).frozen? ⟨w.heap.size, 7, none⟩ = false := by simp [go_sem]
  have kz : w.heap.size < ((w.alloc (.cells #[.int .i64 key, .string d, .int .i64 a, .int .i64 s, .bool dead, .complex .f64 fx fy, .string text, .bool held] 46)).alloc (.cells #[.int .i64 0, .string ⟨#[]⟩, .int .i64 0, .int .i64 0, .bool false, .int .i64 0, .int .i64 0, .string ⟨#[]⟩, .bool false] 28)).heap.size := by simp <;> omega
  have z0 : ((w.alloc (.cells #[.int .i64 key, .string d, .int .i64 a, .int .i64 s, .bool dead, .complex .f64 fx fy, .string text, .bool held] 46)).alloc (.cells #[.int .i64 0, .string ⟨#[]⟩, .int .i64 0, .int .i64 0, .bool false, .int .i64 0, .int .i64 0, .string ⟨#[]⟩, .bool false] 28)).cell? ⟨w.heap.size + 1, 0, none⟩ = some (.int .i64 0) := by simp [go_sem]
  have zf0 : ((w.alloc (.cells #[.int .i64 key, .string d, .int .i64 a, .int .i64 s, .bool dead, .complex .f64 fx fy, .string text, .bool held] 46)).alloc (.cells #[.int .i64 0, .string ⟨#[]⟩, .int .i64 0, .int .i64 0, .bool false, .int .i64 0, .int .i64 0, .string ⟨#[]⟩, .bool false] 28)).frozen? ⟨w.heap.size + 1, 0, none⟩ = false := by simp [go_sem]
  have z1 : ((w.alloc (.cells #[.int .i64 key, .string d, .int .i64 a, .int .i64 s, .bool dead, .complex .f64 fx fy, .string text, .bool held] 46)).alloc (.cells #[.int .i64 0, .string ⟨#[]⟩, .int .i64 0, .int .i64 0, .bool false, .int .i64 0, .int .i64 0, .string ⟨#[]⟩, .bool false] 28)).cell? ⟨w.heap.size + 1, 1, none⟩ = some (.string ⟨#[]⟩) := by simp [go_sem]
  have zf1 : ((w.alloc (.cells #[.int .i64 key, .string d, .int .i64 a, .int .i64 s, .bool dead, .complex .f64 fx fy, .string text, .bool held] 46)).alloc (.cells #[.int .i64 0, .string ⟨#[]⟩, .int .i64 0, .int .i64 0, .bool false, .int .i64 0, .int .i64 0, .string ⟨#[]⟩, .bool false] 28)).frozen? ⟨w.heap.size + 1, 1, none⟩ = false := by simp [go_sem]
  have z2 : ((w.alloc (.cells #[.int .i64 key, .string d, .int .i64 a, .int .i64 s, .bool dead, .complex .f64 fx fy, .string text, .bool held] 46)).alloc (.cells #[.int .i64 0, .string ⟨#[]⟩, .int .i64 0, .int .i64 0, .bool false, .int .i64 0, .int .i64 0, .string ⟨#[]⟩, .bool false] 28)).cell? ⟨w.heap.size + 1, 2, none⟩ = some (.int .i64 0) := by simp [go_sem]
  have zf2 : ((w.alloc (.cells #[.int .i64 key, .string d, .int .i64 a, .int .i64 s, .bool dead, .complex .f64 fx fy, .string text, .bool held] 46)).alloc (.cells #[.int .i64 0, .string ⟨#[]⟩, .int .i64 0, .int .i64 0, .bool false, .int .i64 0, .int .i64 0, .string ⟨#[]⟩, .bool false] 28)).frozen? ⟨w.heap.size + 1, 2, none⟩ = false := by simp [go_sem]
  have z3 : ((w.alloc (.cells #[.int .i64 key, .string d, .int .i64 a, .int .i64 s, .bool dead, .complex .f64 fx fy, .string text, .bool held] 46)).alloc (.cells #[.int .i64 0, .string ⟨#[]⟩, .int .i64 0, .int .i64 0, .bool false, .int .i64 0, .int .i64 0, .string ⟨#[]⟩, .bool false] 28)).cell? ⟨w.heap.size + 1, 3, none⟩ = some (.int .i64 0) := by simp [go_sem]
  have zf3 : ((w.alloc (.cells #[.int .i64 key, .string d, .int .i64 a, .int .i64 s, .bool dead, .complex .f64 fx fy, .string text, .bool held] 46)).alloc (.cells #[.int .i64 0, .string ⟨#[]⟩, .int .i64 0, .int .i64 0, .bool false, .int .i64 0, .int .i64 0, .string ⟨#[]⟩, .bool false] 28)).frozen? ⟨w.heap.size + 1, 3, none⟩ = false := by simp [go_sem]
  have z4 : ((w.alloc (.cells #[.int .i64 key, .string d, .int .i64 a, .int .i64 s, .bool dead, .complex .f64 fx fy, .string text, .bool held] 46)).alloc (.cells #[.int .i64 0, .string ⟨#[]⟩, .int .i64 0, .int .i64 0, .bool false, .int .i64 0, .int .i64 0, .string ⟨#[]⟩, .bool false] 28)).cell? ⟨w.heap.size + 1, 4, none⟩ = some (.bool false) := by simp [go_sem]
  have zf4 : ((w.alloc (.cells #[.int .i64 key, .string d, .int .i64 a, .int .i64 s, .bool dead, .complex .f64 fx fy, .string text, .bool held] 46)).alloc (.cells #[.int .i64 0, .string ⟨#[]⟩, .int .i64 0, .int .i64 0, .bool false, .int .i64 0, .int .i64 0, .string ⟨#[]⟩, .bool false] 28)).frozen? ⟨w.heap.size + 1, 4, none⟩ = false := by simp [go_sem]
  have z5 : ((w.alloc (.cells #[.int .i64 key, .string d, .int .i64 a, .int .i64 s, .bool dead, .complex .f64 fx fy, .string text, .bool held] 46)).alloc (.cells #[.int .i64 0, .string ⟨#[]⟩, .int .i64 0, .int .i64 0, .bool false, .int .i64 0, .int .i64 0, .string ⟨#[]⟩, .bool false] 28)).cell? ⟨w.heap.size + 1, 5, none⟩ = some (.int .i64 0) := by simp [go_sem]
  have zf5 : ((w.alloc (.cells #[.int .i64 key, .string d, .int .i64 a, .int .i64 s, .bool dead, .complex .f64 fx fy, .string text, .bool held] 46)).alloc (.cells #[.int .i64 0, .string ⟨#[]⟩, .int .i64 0, .int .i64 0, .bool false, .int .i64 0, .int .i64 0, .string ⟨#[]⟩, .bool false] 28)).frozen? ⟨w.heap.size + 1, 5, none⟩ = false := by simp [go_sem]
  have z6 : ((w.alloc (.cells #[.int .i64 key, .string d, .int .i64 a, .int .i64 s, .bool dead, .complex .f64 fx fy, .string text, .bool held] 46)).alloc (.cells #[.int .i64 0, .string ⟨#[]⟩, .int .i64 0, .int .i64 0, .bool false, .int .i64 0, .int .i64 0, .string ⟨#[]⟩, .bool false] 28)).cell? ⟨w.heap.size + 1, 6, none⟩ = some (.int .i64 0) := by simp [go_sem]
  have zf6 : ((w.alloc (.cells #[.int .i64 key, .string d, .int .i64 a, .int .i64 s, .bool dead, .complex .f64 fx fy, .string text, .bool held] 46)).alloc (.cells #[.int .i64 0, .string ⟨#[]⟩, .int .i64 0, .int .i64 0, .bool false, .int .i64 0, .int .i64 0, .string ⟨#[]⟩, .bool false] 28)).frozen? ⟨w.heap.size + 1, 6, none⟩ = false := by simp [go_sem]
  have z7 : ((w.alloc (.cells #[.int .i64 key, .string d, .int .i64 a, .int .i64 s, .bool dead, .complex .f64 fx fy, .string text, .bool held] 46)).alloc (.cells #[.int .i64 0, .string ⟨#[]⟩, .int .i64 0, .int .i64 0, .bool false, .int .i64 0, .int .i64 0, .string ⟨#[]⟩, .bool false] 28)).cell? ⟨w.heap.size + 1, 7, none⟩ = some (.string ⟨#[]⟩) := by simp [go_sem]
  have zf7 : ((w.alloc (.cells #[.int .i64 key, .string d, .int .i64 a, .int .i64 s, .bool dead, .complex .f64 fx fy, .string text, .bool held] 46)).alloc (.cells #[.int .i64 0, .string ⟨#[]⟩, .int .i64 0, .int .i64 0, .bool false, .int .i64 0, .int .i64 0, .string ⟨#[]⟩, .bool false] 28)).frozen? ⟨w.heap.size + 1, 7, none⟩ = false := by simp [go_sem]
  have z8 : ((w.alloc (.cells #[.int .i64 key, .string d, .int .i64 a, .int .i64 s, .bool dead, .complex .f64 fx fy, .string text, .bool held] 46)).alloc (.cells #[.int .i64 0, .string ⟨#[]⟩, .int .i64 0, .int .i64 0, .bool false, .int .i64 0, .int .i64 0, .string ⟨#[]⟩, .bool false] 28)).cell? ⟨w.heap.size + 1, 8, none⟩ = some (.bool false) := by simp [go_sem]
  have zf8 : ((w.alloc (.cells #[.int .i64 key, .string d, .int .i64 a, .int .i64 s, .bool dead, .complex .f64 fx fy, .string text, .bool held] 46)).alloc (.cells #[.int .i64 0, .string ⟨#[]⟩, .int .i64 0, .int .i64 0, .bool false, .int .i64 0, .int .i64 0, .string ⟨#[]⟩, .bool false] 28)).frozen? ⟨w.heap.size + 1, 8, none⟩ = false := by simp [go_sem]
  have zz : w.heap.size + 1 < ((w.alloc (.cells #[.int .i64 key, .string d, .int .i64 a, .int .i64 s, .bool dead, .complex .f64 fx fy, .string text, .bool held] 46)).alloc (.cells #[.int .i64 0, .string ⟨#[]⟩, .int .i64 0, .int .i64 0, .bool false, .int .i64 0, .int .i64 0, .string ⟨#[]⟩, .bool false] 28)).heap.size := by simp <;> omega
  have HB : Hid (Below w.heap.size w ((w.alloc (.cells #[.int .i64 key, .string d, .int .i64 a, .int .i64 s, .bool dead, .complex .f64 fx fy, .string text, .bool held] 46)).alloc (.cells #[.int .i64 0, .string ⟨#[]⟩, .int .i64 0, .int .i64 0, .bool false, .int .i64 0, .int .i64 0, .string ⟨#[]⟩, .bool false] 28))) := ((Below.refl _ _).alloc (Nat.le_refl _) _).alloc (by simp) _
  generalize ((w.alloc (.cells #[.int .i64 key, .string d, .int .i64 a, .int .i64 s, .bool dead, .complex .f64 fx fy, .string text, .bool held] 46)).alloc (.cells #[.int .i64 0, .string ⟨#[]⟩, .int .i64 0, .int .i64 0, .bool false, .int .i64 0, .int .i64 0, .string ⟨#[]⟩, .bool false] 28)) = W at *
  refine tail_begin (S := fun w' => w'.cell? ⟨w.heap.size, 0, none⟩ = some (.int .i64 key) ∧ w'.cell? ⟨w.heap.size, 1, none⟩ = some (.string d) ∧ w'.cell? ⟨w.heap.size, 2, none⟩ = some (.int .i64 a) ∧ w'.cell? ⟨w.heap.size, 3, none⟩ = some (.int .i64 s) ∧ w'.cell? ⟨w.heap.size, 4, none⟩ = some (.bool dead) ∧ w'.cell? ⟨w.heap.size, 5, none⟩ = some (.complex .f64 fx fy) ∧ w'.cell? ⟨w.heap.size, 6, none⟩ = some (.string text) ∧ w'.cell? ⟨w.heap.size, 7, none⟩ = some (.bool held)) 22 (by kernel_rfl) ⟨k0, k1, k2, k3, k4, k5, k6, k7⟩ (fun hHeld => ?_)
  refine tail_take (i := 0) (oi := { dst := some 3, op := Go.Op.fieldAddr 46 (Go.Operand.tmp 1) 0, type := 0, pos := "law.go:25", after := #[], guard := none }) (v := ?_) rfl (by kernel_rfl) (by kernel_rfl) (by kernel_rfl) (by kernel_rfl) (fun _ _ _ h => h) (Or.inl ⟨rfl, ?_⟩) (by assumption) ?_
  rotate_left
  · intro wz hSw; (try dsimp only at hSw); go_simp; try (with_reducible rfl)
  try simp only [Act.put, List.setIfInBounds_toArray, List.set_cons_zero, List.set_cons_succ]
  refine tail_take (i := 1) (oi := { dst := some 4, op := Go.Op.load 3 (Go.Operand.tmp 3), type := 3, pos := "law.go:25", after := #[{ on := 0, ground := Go.Ground.data }], guard := none }) (v := ?_) rfl (by kernel_rfl) (by kernel_rfl) (by kernel_rfl) (by kernel_rfl) (fun _ _ _ h => h) (Or.inl ⟨rfl, ?_⟩) (by assumption) ?_
  rotate_left
  · intro wz hSw; (try dsimp only at hSw); go_simp; try (with_reducible rfl)
  try simp only [Act.put, List.setIfInBounds_toArray, List.set_cons_zero, List.set_cons_succ]
  refine tail_take (i := 2) (oi := { dst := some 5, op := Go.Op.fieldAddr 46 (Go.Operand.tmp 1) 1, type := 0, pos := "law.go:25", after := #[], guard := none }) (v := ?_) rfl (by kernel_rfl) (by kernel_rfl) (by kernel_rfl) (by kernel_rfl) (fun _ _ _ h => h) (Or.inl ⟨rfl, ?_⟩) (by assumption) ?_
  rotate_left
  · intro wz hSw; (try dsimp only at hSw); go_simp; try (with_reducible rfl)
  try simp only [Act.put, List.setIfInBounds_toArray, List.set_cons_zero, List.set_cons_succ]
  refine tail_take (i := 3) (oi := { dst := some 6, op := Go.Op.fieldAddr 43 (Go.Operand.tmp 5) 0, type := 0, pos := "law.go:25", after := #[{ on := 2, ground := Go.Ground.data }], guard := none }) (v := ?_) rfl (by kernel_rfl) (by kernel_rfl) (by kernel_rfl) (by kernel_rfl) (fun _ _ _ h => h) (Or.inl ⟨rfl, ?_⟩) (by assumption) ?_
  rotate_left
  · intro wz hSw; (try dsimp only at hSw); go_simp; try (with_reducible rfl)
  try simp only [Act.put, List.setIfInBounds_toArray, List.set_cons_zero, List.set_cons_succ]
  refine tail_take (i := 4) (oi := { dst := some 7, op := Go.Op.load 41 (Go.Operand.tmp 6), type := 41, pos := "law.go:25", after := #[{ on := 3, ground := Go.Ground.data }], guard := none }) (v := ?_) rfl (by kernel_rfl) (by kernel_rfl) (by kernel_rfl) (by kernel_rfl) (fun _ _ _ h => h) (Or.inl ⟨rfl, ?_⟩) (by assumption) ?_
  rotate_left
  · intro wz hSw; (try dsimp only at hSw); go_simp; try (with_reducible rfl)
  try simp only [Act.put, List.setIfInBounds_toArray, List.set_cons_zero, List.set_cons_succ]
  refine tail_take (i := 5) (oi := { dst := some 8, op := Go.Op.fieldAddr 46 (Go.Operand.tmp 1) 1, type := 0, pos := "law.go:25", after := #[], guard := none }) (v := ?_) rfl (by kernel_rfl) (by kernel_rfl) (by kernel_rfl) (by kernel_rfl) (fun _ _ _ h => h) (Or.inl ⟨rfl, ?_⟩) (by assumption) ?_
  rotate_left
  · intro wz hSw; (try dsimp only at hSw); go_simp; try (with_reducible rfl)
  try simp only [Act.put, List.setIfInBounds_toArray, List.set_cons_zero, List.set_cons_succ]
  refine tail_take (i := 6) (oi := { dst := some 9, op := Go.Op.fieldAddr 43 (Go.Operand.tmp 8) 1, type := 0, pos := "law.go:25", after := #[{ on := 5, ground := Go.Ground.data }], guard := none }) (v := ?_) rfl (by kernel_rfl) (by kernel_rfl) (by kernel_rfl) (by kernel_rfl) (fun _ _ _ h => h) (Or.inl ⟨rfl, ?_⟩) (by assumption) ?_
  rotate_left
  · intro wz hSw; (try dsimp only at hSw); go_simp; try (with_reducible rfl)
  try simp only [Act.put, List.setIfInBounds_toArray, List.set_cons_zero, List.set_cons_succ]
  refine tail_take (i := 7) (oi := { dst := some 10, op := Go.Op.load 3 (Go.Operand.tmp 9), type := 3, pos := "law.go:25", after := #[{ on := 6, ground := Go.Ground.data }], guard := none }) (v := ?_) rfl (by kernel_rfl) (by kernel_rfl) (by kernel_rfl) (by kernel_rfl) (fun _ _ _ h => h) (Or.inl ⟨rfl, ?_⟩) (by assumption) ?_
  rotate_left
  · intro wz hSw; (try dsimp only at hSw); go_simp; try (with_reducible rfl)
  try simp only [Act.put, List.setIfInBounds_toArray, List.set_cons_zero, List.set_cons_succ]
  refine tail_take (i := 8) (oi := { dst := some 11, op := Go.Op.fieldAddr 46 (Go.Operand.tmp 1) 1, type := 0, pos := "law.go:25", after := #[], guard := none }) (v := ?_) rfl (by kernel_rfl) (by kernel_rfl) (by kernel_rfl) (by kernel_rfl) (fun _ _ _ h => h) (Or.inl ⟨rfl, ?_⟩) (by assumption) ?_
  rotate_left
  · intro wz hSw; (try dsimp only at hSw); go_simp; try (with_reducible rfl)
  try simp only [Act.put, List.setIfInBounds_toArray, List.set_cons_zero, List.set_cons_succ]
  refine tail_take (i := 9) (oi := { dst := some 12, op := Go.Op.fieldAddr 43 (Go.Operand.tmp 11) 2, type := 0, pos := "law.go:25", after := #[{ on := 8, ground := Go.Ground.data }], guard := none }) (v := ?_) rfl (by kernel_rfl) (by kernel_rfl) (by kernel_rfl) (by kernel_rfl) (fun _ _ _ h => h) (Or.inl ⟨rfl, ?_⟩) (by assumption) ?_
  rotate_left
  · intro wz hSw; (try dsimp only at hSw); go_simp; try (with_reducible rfl)
  try simp only [Act.put, List.setIfInBounds_toArray, List.set_cons_zero, List.set_cons_succ]
  refine tail_take (i := 10) (oi := { dst := some 13, op := Go.Op.load 3 (Go.Operand.tmp 12), type := 3, pos := "law.go:25", after := #[{ on := 9, ground := Go.Ground.data }], guard := none }) (v := ?_) rfl (by kernel_rfl) (by kernel_rfl) (by kernel_rfl) (by kernel_rfl) (fun _ _ _ h => h) (Or.inl ⟨rfl, ?_⟩) (by assumption) ?_
  rotate_left
  · intro wz hSw; (try dsimp only at hSw); go_simp; try (with_reducible rfl)
  try simp only [Act.put, List.setIfInBounds_toArray, List.set_cons_zero, List.set_cons_succ]
  refine tail_take (i := 11) (oi := { dst := some 14, op := Go.Op.build 26 #[(0, Go.Operand.tmp 7), (1, Go.Operand.tmp 10), (2, Go.Operand.tmp 13)], type := 26, pos := "law.go:25", after := #[{ on := 4, ground := Go.Ground.data }, { on := 7, ground := Go.Ground.data }, { on := 10, ground := Go.Ground.data }], guard := none }) (v := ?_) rfl (by kernel_rfl) (by kernel_rfl) (by kernel_rfl) (by kernel_rfl) (fun _ _ _ h => h) (Or.inl ⟨rfl, ?_⟩) (by assumption) ?_
  rotate_left
  · intro wz hSw; (try dsimp only at hSw); go_simp; try (with_reducible rfl)
  try simp only [Act.put, List.setIfInBounds_toArray, List.set_cons_zero, List.set_cons_succ]
  refine tail_take (i := 12) (oi := { dst := some 15, op := Go.Op.fieldAddr 46 (Go.Operand.tmp 1) 2, type := 0, pos := "law.go:25", after := #[], guard := none }) (v := ?_) rfl (by kernel_rfl) (by kernel_rfl) (by kernel_rfl) (by kernel_rfl) (fun _ _ _ h => h) (Or.inl ⟨rfl, ?_⟩) (by assumption) ?_
  rotate_left
  · intro wz hSw; (try dsimp only at hSw); go_simp; try (with_reducible rfl)
  try simp only [Act.put, List.setIfInBounds_toArray, List.set_cons_zero, List.set_cons_succ]
  refine tail_take (i := 13) (oi := { dst := some 16, op := Go.Op.load 4 (Go.Operand.tmp 15), type := 4, pos := "law.go:25", after := #[{ on := 12, ground := Go.Ground.data }], guard := none }) (v := ?_) rfl (by kernel_rfl) (by kernel_rfl) (by kernel_rfl) (by kernel_rfl) (fun _ _ _ h => h) (Or.inl ⟨rfl, ?_⟩) (by assumption) ?_
  rotate_left
  · intro wz hSw; (try dsimp only at hSw); go_simp; try (with_reducible rfl)
  try simp only [Act.put, List.setIfInBounds_toArray, List.set_cons_zero, List.set_cons_succ]
  refine tail_take (i := 14) (oi := { dst := some 17, op := Go.Op.fieldAddr 46 (Go.Operand.tmp 1) 3, type := 0, pos := "law.go:25", after := #[], guard := none }) (v := ?_) rfl (by kernel_rfl) (by kernel_rfl) (by kernel_rfl) (by kernel_rfl) (fun _ _ _ h => h) (Or.inl ⟨rfl, ?_⟩) (by assumption) ?_
  rotate_left
  · intro wz hSw; (try dsimp only at hSw); go_simp; try (with_reducible rfl)
  try simp only [Act.put, List.setIfInBounds_toArray, List.set_cons_zero, List.set_cons_succ]
  refine tail_take (i := 15) (oi := { dst := some 18, op := Go.Op.load 44 (Go.Operand.tmp 17), type := 44, pos := "law.go:25", after := #[{ on := 14, ground := Go.Ground.data }], guard := none }) (v := ?_) rfl (by kernel_rfl) (by kernel_rfl) (by kernel_rfl) (by kernel_rfl) (fun _ _ _ h => h) (Or.inl ⟨rfl, ?_⟩) (by assumption) ?_
  rotate_left
  · intro wz hSw; (try dsimp only at hSw); go_simp; try (with_reducible rfl)
  try simp only [Act.put, List.setIfInBounds_toArray, List.set_cons_zero, List.set_cons_succ]
  refine tail_take (i := 17) (oi := { dst := some 20, op := Go.Op.fieldAddr 46 (Go.Operand.tmp 1) 4, type := 0, pos := "law.go:25", after := #[], guard := none }) (v := ?_) rfl (by kernel_rfl) (by kernel_rfl) (by kernel_rfl) (by kernel_rfl) (fun _ _ _ h => h) (Or.inl ⟨rfl, ?_⟩) (by assumption) ?_
  rotate_left
  · intro wz hSw; (try dsimp only at hSw); go_simp; try (with_reducible rfl)
  try simp only [Act.put, List.setIfInBounds_toArray, List.set_cons_zero, List.set_cons_succ]
  refine tail_take (i := 18) (oi := { dst := some 21, op := Go.Op.load 9 (Go.Operand.tmp 20), type := 9, pos := "law.go:25", after := #[{ on := 17, ground := Go.Ground.data }], guard := none }) (v := ?_) rfl (by kernel_rfl) (by kernel_rfl) (by kernel_rfl) (by kernel_rfl) (fun _ _ _ h => h) (Or.inl ⟨rfl, ?_⟩) (by assumption) ?_
  rotate_left
  · intro wz hSw; (try dsimp only at hSw); go_simp; try (with_reducible rfl)
  try simp only [Act.put, List.setIfInBounds_toArray, List.set_cons_zero, List.set_cons_succ]
  refine tail_take (i := 19) (oi := { dst := some 22, op := Go.Op.fieldAddr 46 (Go.Operand.tmp 1) 5, type := 0, pos := "law.go:25", after := #[], guard := none }) (v := ?_) rfl (by kernel_rfl) (by kernel_rfl) (by kernel_rfl) (by kernel_rfl) (fun _ _ _ h => h) (Or.inl ⟨rfl, ?_⟩) (by assumption) ?_
  rotate_left
  · intro wz hSw; (try dsimp only at hSw); go_simp; try (with_reducible rfl)
  try simp only [Act.put, List.setIfInBounds_toArray, List.set_cons_zero, List.set_cons_succ]
  refine tail_take (i := 20) (oi := { dst := some 23, op := Go.Op.load 4 (Go.Operand.tmp 22), type := 4, pos := "law.go:25", after := #[{ on := 19, ground := Go.Ground.data }], guard := none }) (v := ?_) rfl (by kernel_rfl) (by kernel_rfl) (by kernel_rfl) (by kernel_rfl) (fun _ _ _ h => h) (Or.inl ⟨rfl, ?_⟩) (by assumption) ?_
  rotate_left
  · intro wz hSw; (try dsimp only at hSw); go_simp; try (with_reducible rfl)
  try simp only [Act.put, List.setIfInBounds_toArray, List.set_cons_zero, List.set_cons_succ]
  refine tail_call (i := 16) (o := { dst := some 19, op := Go.Op.call { callee := Go.Callee.value (Go.Operand.func 44), args := #[Go.Operand.tmp 18], argTypes := #[44] }, type := 24, pos := "law.go:25", after := #[{ on := 15, ground := Go.Ground.data }], guard := none }) (by kernel_rfl) (by kernel_rfl) rfl (fun K hK => ?_)
  go_simp
  go_at_call 44
  refine (HP.out _).mono ?_
  rintro e w1 ⟨rfl, hb⟩
  replace k0 := (hb.cell (p := ⟨w.heap.size, 0, none⟩) kz).trans k0
  replace kf0 := (hb.frozen (p := ⟨w.heap.size, 0, none⟩) kz).trans kf0
  replace k1 := (hb.cell (p := ⟨w.heap.size, 1, none⟩) kz).trans k1
  replace kf1 := (hb.frozen (p := ⟨w.heap.size, 1, none⟩) kz).trans kf1
  replace k2 := (hb.cell (p := ⟨w.heap.size, 2, none⟩) kz).trans k2
  replace kf2 := (hb.frozen (p := ⟨w.heap.size, 2, none⟩) kz).trans kf2
  replace k3 := (hb.cell (p := ⟨w.heap.size, 3, none⟩) kz).trans k3
  replace kf3 := (hb.frozen (p := ⟨w.heap.size, 3, none⟩) kz).trans kf3
  replace k4 := (hb.cell (p := ⟨w.heap.size, 4, none⟩) kz).trans k4
  replace kf4 := (hb.frozen (p := ⟨w.heap.size, 4, none⟩) kz).trans kf4
  replace k5 := (hb.cell (p := ⟨w.heap.size, 5, none⟩) kz).trans k5
  replace kf5 := (hb.frozen (p := ⟨w.heap.size, 5, none⟩) kz).trans kf5
  replace k6 := (hb.cell (p := ⟨w.heap.size, 6, none⟩) kz).trans k6
  replace kf6 := (hb.frozen (p := ⟨w.heap.size, 6, none⟩) kz).trans kf6
  replace k7 := (hb.cell (p := ⟨w.heap.size, 7, none⟩) kz).trans k7
  replace kf7 := (hb.frozen (p := ⟨w.heap.size, 7, none⟩) kz).trans kf7
  replace kz := Nat.lt_of_lt_of_le kz hb.size
  replace z0 := (hb.cell (p := ⟨w.heap.size + 1, 0, none⟩) zz).trans z0
  replace zf0 := (hb.frozen (p := ⟨w.heap.size + 1, 0, none⟩) zz).trans zf0
  replace z1 := (hb.cell (p := ⟨w.heap.size + 1, 1, none⟩) zz).trans z1
  replace zf1 := (hb.frozen (p := ⟨w.heap.size + 1, 1, none⟩) zz).trans zf1
  replace z2 := (hb.cell (p := ⟨w.heap.size + 1, 2, none⟩) zz).trans z2
  replace zf2 := (hb.frozen (p := ⟨w.heap.size + 1, 2, none⟩) zz).trans zf2
  replace z3 := (hb.cell (p := ⟨w.heap.size + 1, 3, none⟩) zz).trans z3
  replace zf3 := (hb.frozen (p := ⟨w.heap.size + 1, 3, none⟩) zz).trans zf3
  replace z4 := (hb.cell (p := ⟨w.heap.size + 1, 4, none⟩) zz).trans z4
  replace zf4 := (hb.frozen (p := ⟨w.heap.size + 1, 4, none⟩) zz).trans zf4
  replace z5 := (hb.cell (p := ⟨w.heap.size + 1, 5, none⟩) zz).trans z5
  replace zf5 := (hb.frozen (p := ⟨w.heap.size + 1, 5, none⟩) zz).trans zf5
  replace z6 := (hb.cell (p := ⟨w.heap.size + 1, 6, none⟩) zz).trans z6
  replace zf6 := (hb.frozen (p := ⟨w.heap.size + 1, 6, none⟩) zz).trans zf6
  replace z7 := (hb.cell (p := ⟨w.heap.size + 1, 7, none⟩) zz).trans z7
  replace zf7 := (hb.frozen (p := ⟨w.heap.size + 1, 7, none⟩) zz).trans zf7
  replace z8 := (hb.cell (p := ⟨w.heap.size + 1, 8, none⟩) zz).trans z8
  replace zf8 := (hb.frozen (p := ⟨w.heap.size + 1, 8, none⟩) zz).trans zf8
  replace zz := Nat.lt_of_lt_of_le zz hb.size
  replace HB := Lib.hid (below_via HB.out hb HB.out.size ⟨rfl, rfl, rfl, rfl⟩)
  clear hb
  refine hK.out _ _ ⟨k0, k1, k2, k3, k4, k5, k6, k7⟩ (fun hHeld => ?_)
  clear hK K
  try simp only [Act.put, List.setIfInBounds_toArray, List.set_cons_zero, List.set_cons_succ]
  refine tail_take (i := 21) (oi := { dst := some 24, op := Go.Op.build 28 #[(0, Go.Operand.tmp 4), (1, Go.Operand.tmp 14), (2, Go.Operand.tmp 16), (3, Go.Operand.tmp 19), (4, Go.Operand.tmp 21), (5, Go.Operand.tmp 23)], type := 28, pos := "law.go:25", after := #[{ on := 1, ground := Go.Ground.data }, { on := 11, ground := Go.Ground.data }, { on := 13, ground := Go.Ground.data }, { on := 16, ground := Go.Ground.data }, { on := 18, ground := Go.Ground.data }, { on := 20, ground := Go.Ground.data }], guard := none }) (v := ?_) rfl (by kernel_rfl) (by kernel_rfl) (by kernel_rfl) (by kernel_rfl) (fun _ _ _ h => h) (Or.inl ⟨rfl, ?_⟩) (by assumption) ?_
  rotate_left
  · intro wz hSw; (try dsimp only at hSw); go_simp; try (with_reducible rfl)
  try simp only [Act.put, List.setIfInBounds_toArray, List.set_cons_zero, List.set_cons_succ]
  refine tail_last (o := { dst := none, op := Go.Op.store 28 (Go.Operand.tmp 2) (Go.Operand.tmp 24), type := 0, pos := "law.go:25", after := #[{ on := 21, ground := Go.Ground.data }, { on := 16, ground := Go.Ground.chain }, { on := 0, ground := Go.Ground.phase }, { on := 1, ground := Go.Ground.phase }, { on := 2, ground := Go.Ground.phase }, { on := 3, ground := Go.Ground.phase }, { on := 4, ground := Go.Ground.phase }, { on := 5, ground := Go.Ground.phase }, { on := 6, ground := Go.Ground.phase }, { on := 7, ground := Go.Ground.phase }, { on := 8, ground := Go.Ground.phase }, { on := 9, ground := Go.Ground.phase }, { on := 10, ground := Go.Ground.phase }, { on := 11, ground := Go.Ground.phase }, { on := 12, ground := Go.Ground.phase }, { on := 13, ground := Go.Ground.phase }, { on := 14, ground := Go.Ground.phase }, { on := 15, ground := Go.Ground.phase }, { on := 16, ground := Go.Ground.phase }, { on := 17, ground := Go.Ground.phase }, { on := 18, ground := Go.Ground.phase }, { on := 19, ground := Go.Ground.phase }, { on := 20, ground := Go.Ground.phase }, { on := 21, ground := Go.Ground.phase }], guard := none }) (by kernel_rfl) (by kernel_rfl) rfl (fun K hK => ?_)
  go_simp
  clear hHeld
  clear k0 kf0 k1 kf1 k2 kf2 k3 kf3 k4 kf4 k5 kf5 k6 kf6 k7 kf7 kz
  replace z0 : (((((((((w1.setCell ⟨w.heap.size + 1, 0, none⟩ (.int .i64 key)).setCell ⟨w.heap.size + 1, 1, none⟩ (.string d)).setCell ⟨w.heap.size + 1, 2, none⟩ (.int .i64 a)).setCell ⟨w.heap.size + 1, 3, none⟩ (.int .i64 s)).setCell ⟨w.heap.size + 1, 4, none⟩ (.bool dead)).setCell ⟨w.heap.size + 1, 5, none⟩ (.int .i64 x)).setCell ⟨w.heap.size + 1, 6, none⟩ (.int .i64 y)).setCell ⟨w.heap.size + 1, 7, none⟩ (.string text)).setCell ⟨w.heap.size + 1, 8, none⟩ (.bool held)).cell? ⟨w.heap.size + 1, 0, none⟩ = some (.int .i64 key) := by simp [go_sem, z0]
  replace zf0 : (((((((((w1.setCell ⟨w.heap.size + 1, 0, none⟩ (.int .i64 key)).setCell ⟨w.heap.size + 1, 1, none⟩ (.string d)).setCell ⟨w.heap.size + 1, 2, none⟩ (.int .i64 a)).setCell ⟨w.heap.size + 1, 3, none⟩ (.int .i64 s)).setCell ⟨w.heap.size + 1, 4, none⟩ (.bool dead)).setCell ⟨w.heap.size + 1, 5, none⟩ (.int .i64 x)).setCell ⟨w.heap.size + 1, 6, none⟩ (.int .i64 y)).setCell ⟨w.heap.size + 1, 7, none⟩ (.string text)).setCell ⟨w.heap.size + 1, 8, none⟩ (.bool held)).frozen? ⟨w.heap.size + 1, 0, none⟩ = false := by simp [go_sem, zf0]
  replace z1 : (((((((((w1.setCell ⟨w.heap.size + 1, 0, none⟩ (.int .i64 key)).setCell ⟨w.heap.size + 1, 1, none⟩ (.string d)).setCell ⟨w.heap.size + 1, 2, none⟩ (.int .i64 a)).setCell ⟨w.heap.size + 1, 3, none⟩ (.int .i64 s)).setCell ⟨w.heap.size + 1, 4, none⟩ (.bool dead)).setCell ⟨w.heap.size + 1, 5, none⟩ (.int .i64 x)).setCell ⟨w.heap.size + 1, 6, none⟩ (.int .i64 y)).setCell ⟨w.heap.size + 1, 7, none⟩ (.string text)).setCell ⟨w.heap.size + 1, 8, none⟩ (.bool held)).cell? ⟨w.heap.size + 1, 1, none⟩ = some (.string d) := by simp [go_sem, z1]
  replace zf1 : (((((((((w1.setCell ⟨w.heap.size + 1, 0, none⟩ (.int .i64 key)).setCell ⟨w.heap.size + 1, 1, none⟩ (.string d)).setCell ⟨w.heap.size + 1, 2, none⟩ (.int .i64 a)).setCell ⟨w.heap.size + 1, 3, none⟩ (.int .i64 s)).setCell ⟨w.heap.size + 1, 4, none⟩ (.bool dead)).setCell ⟨w.heap.size + 1, 5, none⟩ (.int .i64 x)).setCell ⟨w.heap.size + 1, 6, none⟩ (.int .i64 y)).setCell ⟨w.heap.size + 1, 7, none⟩ (.string text)).setCell ⟨w.heap.size + 1, 8, none⟩ (.bool held)).frozen? ⟨w.heap.size + 1, 1, none⟩ = false := by simp [go_sem, zf1]
  replace z2 : (((((((((w1.setCell ⟨w.heap.size + 1, 0, none⟩ (.int .i64 key)).setCell ⟨w.heap.size + 1, 1, none⟩ (.string d)).setCell ⟨w.heap.size + 1, 2, none⟩ (.int .i64 a)).setCell ⟨w.heap.size + 1, 3, none⟩ (.int .i64 s)).setCell ⟨w.heap.size + 1, 4, none⟩ (.bool dead)).setCell ⟨w.heap.size + 1, 5, none⟩ (.int .i64 x)).setCell ⟨w.heap.size + 1, 6, none⟩ (.int .i64 y)).setCell ⟨w.heap.size + 1, 7, none⟩ (.string text)).setCell ⟨w.heap.size + 1, 8, none⟩ (.bool held)).cell? ⟨w.heap.size + 1, 2, none⟩ = some (.int .i64 a) := by simp [go_sem, z2]
  replace zf2 : (((((((((w1.setCell ⟨w.heap.size + 1, 0, none⟩ (.int .i64 key)).setCell ⟨w.heap.size + 1, 1, none⟩ (.string d)).setCell ⟨w.heap.size + 1, 2, none⟩ (.int .i64 a)).setCell ⟨w.heap.size + 1, 3, none⟩ (.int .i64 s)).setCell ⟨w.heap.size + 1, 4, none⟩ (.bool dead)).setCell ⟨w.heap.size + 1, 5, none⟩ (.int .i64 x)).setCell ⟨w.heap.size + 1, 6, none⟩ (.int .i64 y)).setCell ⟨w.heap.size + 1, 7, none⟩ (.string text)).setCell ⟨w.heap.size + 1, 8, none⟩ (.bool held)).frozen? ⟨w.heap.size + 1, 2, none⟩ = false := by simp [go_sem, zf2]
  replace z3 : (((((((((w1.setCell ⟨w.heap.size + 1, 0, none⟩ (.int .i64 key)).setCell ⟨w.heap.size + 1, 1, none⟩ (.string d)).setCell ⟨w.heap.size + 1, 2, none⟩ (.int .i64 a)).setCell ⟨w.heap.size + 1, 3, none⟩ (.int .i64 s)).setCell ⟨w.heap.size + 1, 4, none⟩ (.bool dead)).setCell ⟨w.heap.size + 1, 5, none⟩ (.int .i64 x)).setCell ⟨w.heap.size + 1, 6, none⟩ (.int .i64 y)).setCell ⟨w.heap.size + 1, 7, none⟩ (.string text)).setCell ⟨w.heap.size + 1, 8, none⟩ (.bool held)).cell? ⟨w.heap.size + 1, 3, none⟩ = some (.int .i64 s) := by simp [go_sem, z3]
  replace zf3 : (((((((((w1.setCell ⟨w.heap.size + 1, 0, none⟩ (.int .i64 key)).setCell ⟨w.heap.size + 1, 1, none⟩ (.string d)).setCell ⟨w.heap.size + 1, 2, none⟩ (.int .i64 a)).setCell ⟨w.heap.size + 1, 3, none⟩ (.int .i64 s)).setCell ⟨w.heap.size + 1, 4, none⟩ (.bool dead)).setCell ⟨w.heap.size + 1, 5, none⟩ (.int .i64 x)).setCell ⟨w.heap.size + 1, 6, none⟩ (.int .i64 y)).setCell ⟨w.heap.size + 1, 7, none⟩ (.string text)).setCell ⟨w.heap.size + 1, 8, none⟩ (.bool held)).frozen? ⟨w.heap.size + 1, 3, none⟩ = false := by simp [go_sem, zf3]
  replace z4 : (((((((((w1.setCell ⟨w.heap.size + 1, 0, none⟩ (.int .i64 key)).setCell ⟨w.heap.size + 1, 1, none⟩ (.string d)).setCell ⟨w.heap.size + 1, 2, none⟩ (.int .i64 a)).setCell ⟨w.heap.size + 1, 3, none⟩ (.int .i64 s)).setCell ⟨w.heap.size + 1, 4, none⟩ (.bool dead)).setCell ⟨w.heap.size + 1, 5, none⟩ (.int .i64 x)).setCell ⟨w.heap.size + 1, 6, none⟩ (.int .i64 y)).setCell ⟨w.heap.size + 1, 7, none⟩ (.string text)).setCell ⟨w.heap.size + 1, 8, none⟩ (.bool held)).cell? ⟨w.heap.size + 1, 4, none⟩ = some (.bool dead) := by simp [go_sem, z4]
  replace zf4 : (((((((((w1.setCell ⟨w.heap.size + 1, 0, none⟩ (.int .i64 key)).setCell ⟨w.heap.size + 1, 1, none⟩ (.string d)).setCell ⟨w.heap.size + 1, 2, none⟩ (.int .i64 a)).setCell ⟨w.heap.size + 1, 3, none⟩ (.int .i64 s)).setCell ⟨w.heap.size + 1, 4, none⟩ (.bool dead)).setCell ⟨w.heap.size + 1, 5, none⟩ (.int .i64 x)).setCell ⟨w.heap.size + 1, 6, none⟩ (.int .i64 y)).setCell ⟨w.heap.size + 1, 7, none⟩ (.string text)).setCell ⟨w.heap.size + 1, 8, none⟩ (.bool held)).frozen? ⟨w.heap.size + 1, 4, none⟩ = false := by simp [go_sem, zf4]
  replace z5 : (((((((((w1.setCell ⟨w.heap.size + 1, 0, none⟩ (.int .i64 key)).setCell ⟨w.heap.size + 1, 1, none⟩ (.string d)).setCell ⟨w.heap.size + 1, 2, none⟩ (.int .i64 a)).setCell ⟨w.heap.size + 1, 3, none⟩ (.int .i64 s)).setCell ⟨w.heap.size + 1, 4, none⟩ (.bool dead)).setCell ⟨w.heap.size + 1, 5, none⟩ (.int .i64 x)).setCell ⟨w.heap.size + 1, 6, none⟩ (.int .i64 y)).setCell ⟨w.heap.size + 1, 7, none⟩ (.string text)).setCell ⟨w.heap.size + 1, 8, none⟩ (.bool held)).cell? ⟨w.heap.size + 1, 5, none⟩ = some (.int .i64 x) := by simp [go_sem, z5]
  replace zf5 : (((((((((w1.setCell ⟨w.heap.size + 1, 0, none⟩ (.int .i64 key)).setCell ⟨w.heap.size + 1, 1, none⟩ (.string d)).setCell ⟨w.heap.size + 1, 2, none⟩ (.int .i64 a)).setCell ⟨w.heap.size + 1, 3, none⟩ (.int .i64 s)).setCell ⟨w.heap.size + 1, 4, none⟩ (.bool dead)).setCell ⟨w.heap.size + 1, 5, none⟩ (.int .i64 x)).setCell ⟨w.heap.size + 1, 6, none⟩ (.int .i64 y)).setCell ⟨w.heap.size + 1, 7, none⟩ (.string text)).setCell ⟨w.heap.size + 1, 8, none⟩ (.bool held)).frozen? ⟨w.heap.size + 1, 5, none⟩ = false := by simp [go_sem, zf5]
  replace z6 : (((((((((w1.setCell ⟨w.heap.size + 1, 0, none⟩ (.int .i64 key)).setCell ⟨w.heap.size + 1, 1, none⟩ (.string d)).setCell ⟨w.heap.size + 1, 2, none⟩ (.int .i64 a)).setCell ⟨w.heap.size + 1, 3, none⟩ (.int .i64 s)).setCell ⟨w.heap.size + 1, 4, none⟩ (.bool dead)).setCell ⟨w.heap.size + 1, 5, none⟩ (.int .i64 x)).setCell ⟨w.heap.size + 1, 6, none⟩ (.int .i64 y)).setCell ⟨w.heap.size + 1, 7, none⟩ (.string text)).setCell ⟨w.heap.size + 1, 8, none⟩ (.bool held)).cell? ⟨w.heap.size + 1, 6, none⟩ = some (.int .i64 y) := by simp [go_sem, z6]
  replace zf6 : (((((((((w1.setCell ⟨w.heap.size + 1, 0, none⟩ (.int .i64 key)).setCell ⟨w.heap.size + 1, 1, none⟩ (.string d)).setCell ⟨w.heap.size + 1, 2, none⟩ (.int .i64 a)).setCell ⟨w.heap.size + 1, 3, none⟩ (.int .i64 s)).setCell ⟨w.heap.size + 1, 4, none⟩ (.bool dead)).setCell ⟨w.heap.size + 1, 5, none⟩ (.int .i64 x)).setCell ⟨w.heap.size + 1, 6, none⟩ (.int .i64 y)).setCell ⟨w.heap.size + 1, 7, none⟩ (.string text)).setCell ⟨w.heap.size + 1, 8, none⟩ (.bool held)).frozen? ⟨w.heap.size + 1, 6, none⟩ = false := by simp [go_sem, zf6]
  replace z7 : (((((((((w1.setCell ⟨w.heap.size + 1, 0, none⟩ (.int .i64 key)).setCell ⟨w.heap.size + 1, 1, none⟩ (.string d)).setCell ⟨w.heap.size + 1, 2, none⟩ (.int .i64 a)).setCell ⟨w.heap.size + 1, 3, none⟩ (.int .i64 s)).setCell ⟨w.heap.size + 1, 4, none⟩ (.bool dead)).setCell ⟨w.heap.size + 1, 5, none⟩ (.int .i64 x)).setCell ⟨w.heap.size + 1, 6, none⟩ (.int .i64 y)).setCell ⟨w.heap.size + 1, 7, none⟩ (.string text)).setCell ⟨w.heap.size + 1, 8, none⟩ (.bool held)).cell? ⟨w.heap.size + 1, 7, none⟩ = some (.string text) := by simp [go_sem, z7]
  replace zf7 : (((((((((w1.setCell ⟨w.heap.size + 1, 0, none⟩ (.int .i64 key)).setCell ⟨w.heap.size + 1, 1, none⟩ (.string d)).setCell ⟨w.heap.size + 1, 2, none⟩ (.int .i64 a)).setCell ⟨w.heap.size + 1, 3, none⟩ (.int .i64 s)).setCell ⟨w.heap.size + 1, 4, none⟩ (.bool dead)).setCell ⟨w.heap.size + 1, 5, none⟩ (.int .i64 x)).setCell ⟨w.heap.size + 1, 6, none⟩ (.int .i64 y)).setCell ⟨w.heap.size + 1, 7, none⟩ (.string text)).setCell ⟨w.heap.size + 1, 8, none⟩ (.bool held)).frozen? ⟨w.heap.size + 1, 7, none⟩ = false := by simp [go_sem, zf7]
  replace z8 : (((((((((w1.setCell ⟨w.heap.size + 1, 0, none⟩ (.int .i64 key)).setCell ⟨w.heap.size + 1, 1, none⟩ (.string d)).setCell ⟨w.heap.size + 1, 2, none⟩ (.int .i64 a)).setCell ⟨w.heap.size + 1, 3, none⟩ (.int .i64 s)).setCell ⟨w.heap.size + 1, 4, none⟩ (.bool dead)).setCell ⟨w.heap.size + 1, 5, none⟩ (.int .i64 x)).setCell ⟨w.heap.size + 1, 6, none⟩ (.int .i64 y)).setCell ⟨w.heap.size + 1, 7, none⟩ (.string text)).setCell ⟨w.heap.size + 1, 8, none⟩ (.bool held)).cell? ⟨w.heap.size + 1, 8, none⟩ = some (.bool held) := by simp [go_sem, z8]
  replace zf8 : (((((((((w1.setCell ⟨w.heap.size + 1, 0, none⟩ (.int .i64 key)).setCell ⟨w.heap.size + 1, 1, none⟩ (.string d)).setCell ⟨w.heap.size + 1, 2, none⟩ (.int .i64 a)).setCell ⟨w.heap.size + 1, 3, none⟩ (.int .i64 s)).setCell ⟨w.heap.size + 1, 4, none⟩ (.bool dead)).setCell ⟨w.heap.size + 1, 5, none⟩ (.int .i64 x)).setCell ⟨w.heap.size + 1, 6, none⟩ (.int .i64 y)).setCell ⟨w.heap.size + 1, 7, none⟩ (.string text)).setCell ⟨w.heap.size + 1, 8, none⟩ (.bool held)).frozen? ⟨w.heap.size + 1, 8, none⟩ = false := by simp [go_sem, zf8]
  replace zz : w.heap.size + 1 < (((((((((w1.setCell ⟨w.heap.size + 1, 0, none⟩ (.int .i64 key)).setCell ⟨w.heap.size + 1, 1, none⟩ (.string d)).setCell ⟨w.heap.size + 1, 2, none⟩ (.int .i64 a)).setCell ⟨w.heap.size + 1, 3, none⟩ (.int .i64 s)).setCell ⟨w.heap.size + 1, 4, none⟩ (.bool dead)).setCell ⟨w.heap.size + 1, 5, none⟩ (.int .i64 x)).setCell ⟨w.heap.size + 1, 6, none⟩ (.int .i64 y)).setCell ⟨w.heap.size + 1, 7, none⟩ (.string text)).setCell ⟨w.heap.size + 1, 8, none⟩ (.bool held)).heap.size := by simp <;> omega
  replace HB : Hid (Below w.heap.size w (((((((((w1.setCell ⟨w.heap.size + 1, 0, none⟩ (.int .i64 key)).setCell ⟨w.heap.size + 1, 1, none⟩ (.string d)).setCell ⟨w.heap.size + 1, 2, none⟩ (.int .i64 a)).setCell ⟨w.heap.size + 1, 3, none⟩ (.int .i64 s)).setCell ⟨w.heap.size + 1, 4, none⟩ (.bool dead)).setCell ⟨w.heap.size + 1, 5, none⟩ (.int .i64 x)).setCell ⟨w.heap.size + 1, 6, none⟩ (.int .i64 y)).setCell ⟨w.heap.size + 1, 7, none⟩ (.string text)).setCell ⟨w.heap.size + 1, 8, none⟩ (.bool held))) := (((((((((HB.out.setCell (by simp) _).setCell (by simp) _).setCell (by simp) _).setCell (by simp) _).setCell (by simp) _).setCell (by simp) _).setCell (by simp) _).setCell (by simp) _).setCell (by simp) _)
  generalize (((((((((w1.setCell ⟨w.heap.size + 1, 0, none⟩ (.int .i64 key)).setCell ⟨w.heap.size + 1, 1, none⟩ (.string d)).setCell ⟨w.heap.size + 1, 2, none⟩ (.int .i64 a)).setCell ⟨w.heap.size + 1, 3, none⟩ (.int .i64 s)).setCell ⟨w.heap.size + 1, 4, none⟩ (.bool dead)).setCell ⟨w.heap.size + 1, 5, none⟩ (.int .i64 x)).setCell ⟨w.heap.size + 1, 6, none⟩ (.int .i64 y)).setCell ⟨w.heap.size + 1, 7, none⟩ (.string text)).setCell ⟨w.heap.size + 1, 8, none⟩ (.bool held)) = W9 at *
  refine hK.out _ _ ?_
  clear hK K
  try simp only [Act.put, List.setIfInBounds_toArray, List.set_cons_zero, List.set_cons_succ]
  go_wp2
  refine bodyPost_ret (v := .agg #[.int .i64 key, .string d, .int .i64 a, .int .i64 s, .bool dead, .int .i64 x, .int .i64 y, .string text, .bool held]) ?_ rfl ?_
  · simp [results, Try.results22, go_sem, z0, z1, z2, z3, z4, z5, z6, z7, z8]
  · exact ⟨rfl, HB.out⟩
end Go.Proofs.Ytpaiigminmakgaa

/- Rows of structs: how they lie in memory. -/
namespace Go.Proofs.Ytpaiigminmakgaa
open Go.RowKit

/-- In w the slice (A, n) holds zs, each in d cells, in a block below B. -/
def RowAt {α : Type} (cf : α → List Value) (d : Nat) (w : World) (B : Nat) (A : Option Addr) (n : Nat) (zs : List α) : Prop :=
  zs.length = n ∧ (0 < n → ∃ b off, A = some ⟨b, off, none⟩ ∧ b < B ∧ ∀ k (_ : k < zs.length) j u, (cf zs[k])[j]? = some u → w.cell? ⟨b, off + k * d + j, none⟩ = some u)

section
variable {α : Type} {cf : α → List Value} {d : Nat} {w w' : World} {B : Nat} {A : Option Addr} {n : Nat} {zs : List α}
theorem RowAt.nil : RowAt cf d w B A 0 [] := ⟨rfl, fun h => absurd h (by omega)⟩
theorem RowAt.hold (h : RowAt cf d w B A n zs) (hk : ∀ b o, b < B → w'.cell? ⟨b, o, none⟩ = w.cell? ⟨b, o, none⟩) : RowAt cf d w' B A n zs :=
  ⟨h.1, fun hn => by
    obtain ⟨b, off, e, hlt, hc⟩ := h.2 hn
    exact ⟨b, off, e, hlt, fun k hk' j u hu => (hk b _ hlt).trans (hc k hk' j u hu)⟩⟩
theorem RowAt.keep (h : RowAt cf d w B A n zs) (hb : Below B w w') : RowAt cf d w' B A n zs := h.hold fun b o hlt => hb.cell (p := ⟨b, o, none⟩) hlt
theorem RowAt.more {B' : Nat} (h : RowAt cf d w B A n zs) (hB : B ≤ B') : RowAt cf d w B' A n zs :=
  ⟨h.1, fun hn => by
    obtain ⟨b, off, e, hlt, hc⟩ := h.2 hn
    exact ⟨b, off, e, by omega, hc⟩⟩
theorem RowAt.take (h : RowAt cf d w B A n zs) {m : Nat} (hm : m ≤ n) : RowAt cf d w B A m (zs.take m) :=
  ⟨by rw [List.length_take, h.1]; omega, fun hn => by
    obtain ⟨b, off, e, hlt, hc⟩ := h.2 (by omega)
    refine ⟨b, off, e, hlt, fun k hk j u hu => ?_⟩
    rw [List.getElem_take] at hu
    exact hc k (by rw [List.length_take] at hk; omega) j u hu⟩
/-- One of them. -/
theorem RowAt.get (h : RowAt cf d w B A n zs) {k : Nat} (hk : k < n) : ∃ b off, A = some ⟨b, off, none⟩ ∧ b < B ∧ ∃ z, zs[k]? = some z ∧ ∀ j u, (cf z)[j]? = some u → w.cell? ⟨b, off + k * d + j, none⟩ = some u := by
  obtain ⟨b, off, e, hlt, hc⟩ := h.2 (by omega)
  have hk' : k < zs.length := by rw [h.1]; exact hk
  exact ⟨b, off, e, hlt, zs[k], List.getElem?_eq_getElem hk', hc k hk'⟩
end
end Go.Proofs.Ytpaiigminmakgaa

/- Rows of structs of the call's own: append onto them. -/
namespace Go.Proofs.Ytpaiigminmakgaa
open Go.RowKit

def rowCells {α : Type} (cf : α → List Value) (zs : List α) : List Value := zs.flatMap cf
/-- A slice type and its element's, whose values are laid by cf in d cells. -/
structure RowTy {α : Type} (cf : α → List Value) (d by' : Nat) (z : Value) (sl e : TypeId) : Prop where
  u : Try.prog.underlying sl = some (.slice e)
  i : (Try.prog.info? e).map (fun i => (i.zero, i.size, i.bytes)) = some (some z, d, by')
  zs : z.cells.size = d
  pos : 0 < d
  small : by' ≤ 128
  len : ∀ x, (cf x).length = d
  one : ∀ x, ∀ u ∈ cf x, u.oneCell' = true
theorem rowCells_append {α : Type} (cf : α → List Value) (xs ys : List α) : rowCells cf (xs ++ ys) = rowCells cf xs ++ rowCells cf ys := by simp [rowCells]
theorem rowCells_length {α : Type} {cf : α → List Value} {d : Nat} (hl : ∀ x, (cf x).length = d) (zs : List α) : (rowCells cf zs).length = zs.length * d := by
  induction zs with
  | nil => simp [rowCells]
  | cons x r ih =>
    have := hl x
    simp only [rowCells, List.flatMap_cons, List.length_append, List.length_cons] at ih ⊢
    rw [ih, this, Nat.add_mul, Nat.one_mul, Nat.add_comm]
theorem rowCells_get {α : Type} {cf : α → List Value} {d : Nat} (hl : ∀ x, (cf x).length = d) : ∀ (zs : List α) (k : Nat) (hk : k < zs.length) (j : Nat), j < d → (rowCells cf zs)[k * d + j]? = (cf zs[k])[j]? := by
  intro zs
  induction zs with
  | nil => intro k hk; simp at hk
  | cons x r ih =>
    intro k hk j hj
    have hx := hl x
    cases k with
    | zero =>
      simp only [rowCells, List.flatMap_cons, Nat.zero_mul, Nat.zero_add, List.getElem_cons_zero]
      rw [List.getElem?_append_left (by omega)]
    | succ k =>
      have := ih k (by simpa using hk) j hj
      simp only [rowCells, List.flatMap_cons, List.getElem_cons_succ] at this ⊢
      rw [List.getElem?_append_right (by rw [Nat.add_mul]; omega), hx, show (k + 1) * d + j - d = k * d + j by rw [Nat.add_mul]; omega]
      exact this
theorem rowCells_some {α : Type} {cf : α → List Value} {d : Nat} (hl : ∀ x, (cf x).length = d) (hd : 0 < d) {zs : List α} {j : Nat} {u : Value} (h : (rowCells cf zs)[j]? = some u) : ∃ k, ∃ hk : k < zs.length, j = k * d + j % d ∧ (cf zs[k])[j % d]? = some u := by
  have hj : j < zs.length * d := by
    have := (List.getElem?_eq_some_iff.mp h).1
    rwa [rowCells_length hl] at this
  have hk : j / d < zs.length := Nat.div_lt_of_lt_mul (by rw [Nat.mul_comm]; exact hj)
  have e : j = j / d * d + j % d := by have := Nat.div_add_mod j d; rw [Nat.mul_comm] at this; omega
  refine ⟨j / d, hk, e, ?_⟩
  rw [← rowCells_get hl zs (j / d) hk (j % d) (Nat.mod_lt _ hd), ← e]
  exact h
theorem radd (b o j : Nat) : (⟨b, o, none⟩ : Addr).add j = ⟨b, o + j, none⟩ := by unfold Addr.add; split <;> simp_all

section
variable {α : Type} {cf : α → List Value} {d by' : Nat} {z : Value} {sl e : TypeId}
theorem RowTy.mem (T : RowTy cf d by' z sl e) {zs : List α} : ∀ u ∈ rowCells cf zs, u.oneCell' = true := by
  intro u hu
  simp only [rowCells, List.mem_flatMap] at hu
  obtain ⟨x, _, hx⟩ := hu
  exact T.one x u hx
theorem row_cells (T : RowTy cf d by' z sl e) {w : World} {B : Nat} {ad : Addr} {m : Nat} {ys : List α} (h : RowAt cf d w B (some ad) m ys) : ∀ j u, (rowCells cf ys)[j]? = some u → w.cell? (ad.add j) = some u := by
  intro j u hu
  obtain ⟨k, hk, hj, hu'⟩ := rowCells_some T.len T.pos hu
  obtain ⟨b, off, e, _, hc⟩ := h.2 (by have := h.1; omega)
  injection e with e
  subst e
  rw [radd, hj, ← Nat.add_assoc]
  exact hc k hk _ u hu'
theorem rown_form {w : World} {B : Nat} {v : Value} {n : Nat} {xs : List Value} (h : w.ownsRow B e d v n xs) : ∃ A c, v = .slice A n c := by
  rcases h.2 with ⟨rfl, rfl⟩ | ⟨g, cap, _, rfl, _⟩
  · exact ⟨none, 0, rfl⟩
  · exact ⟨_, cap, rfl⟩
theorem own_row (T : RowTy cf d by' z sl e) {w : World} {B : Nat} {A : Option Addr} {n c : Nat} {zs : List α} (h : w.ownsRow B e d (.slice A n c) n (rowCells cf zs)) : RowAt cf d w w.heap.size A n zs := by
  have hl : zs.length = n := by
    have := h.1
    rw [rowCells_length T.len] at this
    exact Nat.eq_of_mul_eq_mul_right T.pos this
  refine ⟨hl, fun hn => ?_⟩
  have hh := h
  obtain ⟨g, cap, hv, _, hlt⟩ := h.form hn
  injection hv with hA
  subst hA
  refine ⟨g, 0, rfl, hlt, fun k hk j u hu => ?_⟩
  have hj : j < d := by
    have := (List.getElem?_eq_some_iff.mp hu).1
    rwa [T.len] at this
  have h1 := rowCells_get T.len zs k hk j hj
  have h2 := hh.cells (g := g) rfl (k * d + j) u (h1.trans hu)
  rw [radd] at h2
  rw [show 0 + k * d + j = 0 + (k * d + j) by omega]
  exact h2
theorem rown_cap {w : World} {B : Nat} {A : Option Addr} {n c : Nat} {xs : List Value} (h : w.ownsRow B e d (.slice A n c) n xs) : n ≤ c := by
  rcases h.2 with ⟨h1, rfl⟩ | ⟨g, cap, _, h1, _, _, hc, _⟩
  · omega
  · injection h1 with _ _ h3; omega
theorem run_append_row (T : RowTy cf d by' z sl e) {ty : TypeId} {w : World} {B B' : Nat} {v : Value} {n : Nat} {zs : List α} (hown : w.ownsRow B e d v n (rowCells cf zs)) {A : Option Addr} {m : Nat} {ys : List α} (c : Nat)
    (hr : RowAt cf d w B' A m ys) (hb : n + m ≤ 1099511627776) (hB : B ≤ w.heap.size) :
    ∃ v' w', (Builtin.append_ #[sl, sl] ty #[v, .slice A m c]).run Try.prog w = .ok v' w' ∧ w'.ownsRow B e d v' (n + m) (rowCells cf (zs ++ ys)) ∧ w.grownBy w' v.ownBlock ∧ (v'.ownBlock = v.ownBlock ∨ v'.ownBlock = some w.heap.size) := by
  obtain ⟨i, hi, hz0, hz1, hz2⟩ := info_parts T.i
  rcases A with _ | ad
  · have hm : m = 0 := by
      rcases Nat.eq_zero_or_pos m with h0 | h0
      · exact h0
      · obtain ⟨_, _, h, _⟩ := hr.2 h0
        cases h
    subst hm
    have hy : ys = [] := List.eq_nil_of_length_eq_zero hr.1
    subst hy
    refine ⟨v, w, ?_, by simpa using hown, World.grownBy.refl w _, .inl rfl⟩
    rcases hown.2 with ⟨rfl, rfl⟩ | ⟨g, cap, cur, rfl, _, _, hnc, _⟩
    · simp [Builtin.append_, run_underlying T.u, sizeOf, typeInfo, hi, Builtin.lenOf, Builtin.firstCells]
    · simp [Builtin.append_, run_underlying T.u, sizeOf, typeInfo, hi, Builtin.lenOf, Builtin.firstCells, hnc, storeCells]
  · have hs : (n + m) * by' ≤ 140737488355328 := by
      have := Nat.mul_le_mul hb T.small
      omega
    obtain ⟨v', w', hrun, h2, h3, _, h5⟩ := run_append_own_at (P := Try.prog) w B sl ty e i z d by' T.u hi hz0 hz1 hz2 T.zs T.pos v n _ hown ad m c (rowCells cf ys) (by rw [rowCells_length T.len, hr.1]) (row_cells T hr)
      T.mem (by unfold maxLen; omega) hs hB
    exact ⟨v', w', hrun, by rw [rowCells_append]; exact h2, h3, h5⟩
theorem wp_append_row (T : RowTy cf d by' z sl e) {o : Oper} {a : Act} {K : Act → World → Prop} {Q : Exit → Act → World → Prop} (s x : Operand) (ho : o.op = .call { callee := .builtin .append, args := #[s, x], argTypes := #[sl, sl] })
    {w : World} {B B' : Nat} {v : Value} {n : Nat} {zs : List α} (hs : a.eval s = v) (hown : w.ownsRow B e d v n (rowCells cf zs)) {A : Option Addr} {m : Nat} {ys : List α} {c : Nat} (hx : a.eval x = .slice A m c)
    (hr : RowAt cf d w B' A m ys) (hb : n + m ≤ 1099511627776) (hB : B ≤ w.heap.size)
    (h : ∀ A' c' w', w'.ownsRow B e d (.slice A' (n + m) c') (n + m) (rowCells cf (zs ++ ys)) → w.grownBy w' v.ownBlock → (Value.ownBlock (.slice A' (n + m) c') = v.ownBlock ∨ Value.ownBlock (.slice A' (n + m) c') = some w.heap.size) → K (a.put o.dst (.slice A' (n + m) c')) w') : o.wp Try.prog a w K Q := by
  obtain ⟨v', w', hrun, h2, h3, h4⟩ := run_append_row T (ty := o.type) hown c hr hb hB
  obtain ⟨A', c', rfl⟩ := rown_form h2
  unfold Oper.wp execOp
  simp only [ho, resolve, invoke, builtin, Sem.run_bind, Sem.run_pure, Result.andThen_ok, List.map_toArray, List.map_cons, List.map_nil, hs, hx, hrun]
  exact h A' c' w' h2 h3 h4
theorem wpList_append_row (T : RowTy cf d by' z sl e) {ops : Array Oper} {rest : List Oper} {o : Oper} {a : Act} {Q : Exit → Act → World → Prop} (hgd : o.guard = none) (s x : Operand) (ho : o.op = .call { callee := .builtin .append, args := #[s, x], argTypes := #[sl, sl] })
    {w : World} {B B' : Nat} {v : Value} {n : Nat} {zs : List α} (hs : a.eval s = v) (hown : w.ownsRow B e d v n (rowCells cf zs)) {A : Option Addr} {m : Nat} {ys : List α} {c : Nat} (hx : a.eval x = .slice A m c)
    (hr : RowAt cf d w B' A m ys) (hb : n + m ≤ 1099511627776) (hB : B ≤ w.heap.size)
    (h : ∀ A' c' w', w'.ownsRow B e d (.slice A' (n + m) c') (n + m) (rowCells cf (zs ++ ys)) → w.grownBy w' v.ownBlock → (Value.ownBlock (.slice A' (n + m) c') = v.ownBlock ∨ Value.ownBlock (.slice A' (n + m) c') = some w.heap.size) → wpList Try.prog ops Q rest (a.put o.dst (.slice A' (n + m) c')) w') :
    wpList Try.prog ops Q (o :: rest) a w :=
  wpList_plain hgd fun _ hK => wp_append_row T s x ho hs hown hx hr hb hB fun A' c' w' h2 h3 h4 => hK _ _ (h A' c' w' h2 h3 h4)
theorem one_row (T : RowTy cf d by' z sl e) {w : World} {g : Nat} {e' : TypeId} {x : α} {fr : Nat × Nat} (h : w.heap[g]? = some (.cells (cf x).toArray e' fr)) : RowAt cf d w (g + 1) (some ⟨g, 0, none⟩) 1 [x] :=
  ⟨rfl, fun _ => ⟨_, _, rfl, by omega, fun k hk j u hu => by
    obtain rfl : k = 0 := by simpa using hk
    have hj : j < d := by
      have := (List.getElem?_eq_some_iff.mp hu).1
      simpa [T.len] using this
    have := cell_of_row w g j _ _ _ h
    simp only [List.getElem_cons_zero] at hu
    simpa [hu] using this⟩⟩
theorem rown_nil (w : World) (B : Nat) : w.ownsRow B e d (.slice none 0 0) 0 (rowCells cf ([] : List α)) := ⟨by simp [rowCells], .inl ⟨rfl, rfl⟩⟩
theorem rown_grown {w w' : World} {B : Nat} {v : Value} {n : Nat} {xs : List Value} (h : w.ownsRow B e d v n xs) {row : Option Nat} (hg : w.grownBy w' row) (hne : row = none ∨ v.ownBlock ≠ row) : w'.ownsRow B e d v n xs :=
  h.kept (row := row) hg (by
    rcases hne with rfl | hne
    · cases hv : v.ownBlock <;> simp
    · exact .inr hne)
theorem rgrown_of_below {w w' : World} (h : Below w.heap.size w w') (row : Option Nat) : w.grownBy w' row := ⟨h.os, h.tape, h.output, h.size, fun k hk _ => h.block k hk⟩
theorem rown_below {w w' : World} {B : Nat} {v : Value} {n : Nat} {xs : List Value} (h : w.ownsRow B e d v n xs) (hb : Below w.heap.size w w') : w'.ownsRow B e d v n xs :=
  rown_grown h (rgrown_of_below hb none) (.inl rfl)
theorem rown_base {w : World} {B B' : Nat} {v : Value} {n : Nat} {xs : List Value} (h : w.ownsRow B e d v n xs) (hB : B' ≤ B) : w.ownsRow B' e d v n xs := by
  refine ⟨h.1, ?_⟩
  rcases h.2 with h0 | ⟨g, cap, cur, h1, h2, h3⟩
  · exact .inl h0
  · exact .inr ⟨g, cap, cur, h1, Nat.le_trans hB h2, h3⟩
/-- A row of the call's own is answered. -/
def OwnRow (cf : α → List Value) (d : Nat) (e : TypeId) (zs : List α) (w : World) (en : Ending) (w' : World) : Prop :=
  ∃ A c, en = .returned (.slice A zs.length c) ∧ w'.ownsRow w.heap.size e d (.slice A zs.length c) zs.length (rowCells cf zs) ∧ Below w.heap.size w w'
end
end Go.Proofs.Ytpaiigminmakgaa

/- Rows of items: how they lie; the law's To and From. -/
namespace Go.Proofs.Ytpaiigminmakgaa
open Go.RowKit

/-- An item's cells, as the document's answer has it, and as the program does. -/
def cellsI (i : Itm) : List Value := [.int .i64 i.key, .string i.ver.id, .int .i64 i.ver.seq, .int .i64 i.ver.stamp, .bool i.dead, .int .i64 i.x, .int .i64 i.y, .string i.text, .bool i.held]
def cellsP (i : Itm) : List Value := [.int .i64 i.key, .string i.ver.id, .int .i64 i.ver.seq, .int .i64 i.ver.stamp, .bool i.dead, .complex .f64 (fl i.x) (fl i.y), .string i.text, .bool i.held]
def zeroR : Value := .agg #[.int .i64 0, .string ⟨#[]⟩, .int .i64 0, .int .i64 0, .bool false, .int .i64 0, .int .i64 0, .string ⟨#[]⟩, .bool false]
def zeroP : Value := .agg #[.int .i64 0, .string ⟨#[]⟩, .int .i64 0, .int .i64 0, .bool false, .complex .f64 0 0, .string ⟨#[]⟩, .bool false]
theorem cellsI_one (x : Itm) : ∀ u ∈ cellsI x, u.oneCell' = true := by
  intro u hu
  simp only [cellsI, List.mem_cons, List.not_mem_nil, or_false] at hu
  rcases hu with rfl | rfl | rfl | rfl | rfl | rfl | rfl | rfl | rfl <;> rfl
theorem cellsP_one (x : Itm) : ∀ u ∈ cellsP x, u.oneCell' = true := by
  intro u hu
  simp only [cellsP, List.mem_cons, List.not_mem_nil, or_false] at hu
  rcases hu with rfl | rfl | rfl | rfl | rfl | rfl | rfl | rfl <;> rfl
theorem rowI : RowTy cellsI 9 88 zeroR 22 28 := ⟨Try.underlying22, by kernel_rfl, rfl, by omega, by omega, fun _ => rfl, cellsI_one⟩
theorem rowS : RowTy cellsP 8 88 zeroP 38 46 := ⟨Try.underlying38, by kernel_rfl, rfl, by omega, by omega, fun _ => rfl, cellsP_one⟩
theorem rowP : RowTy cellsP 8 88 zeroP 32 46 := ⟨Try.underlying32, by kernel_rfl, rfl, by omega, by omega, fun _ => rfl, cellsP_one⟩
theorem cellsI_at {w : World} {b o : Nat} {z : Itm} (h : ∀ j u, (cellsI z)[j]? = some u → w.cell? ⟨b, o + j, none⟩ = some u) :
    w.cell? ⟨b, o, none⟩ = some (.int .i64 z.key) ∧ w.cell? ⟨b, o + 1, none⟩ = some (.string z.ver.id) ∧ w.cell? ⟨b, o + 2, none⟩ = some (.int .i64 z.ver.seq) ∧ w.cell? ⟨b, o + 3, none⟩ = some (.int .i64 z.ver.stamp) ∧ w.cell? ⟨b, o + 4, none⟩ = some (.bool z.dead) ∧ w.cell? ⟨b, o + 5, none⟩ = some (.int .i64 z.x) ∧ w.cell? ⟨b, o + 6, none⟩ = some (.int .i64 z.y) ∧ w.cell? ⟨b, o + 7, none⟩ = some (.string z.text) ∧ w.cell? ⟨b, o + 8, none⟩ = some (.bool z.held) :=
  ⟨h 0 _ rfl, h 1 _ rfl, h 2 _ rfl, h 3 _ rfl, h 4 _ rfl, h 5 _ rfl, h 6 _ rfl, h 7 _ rfl, h 8 _ rfl⟩
theorem cellsP_at {w : World} {b o : Nat} {z : Itm} (h : ∀ j u, (cellsP z)[j]? = some u → w.cell? ⟨b, o + j, none⟩ = some u) :
    w.cell? ⟨b, o, none⟩ = some (.int .i64 z.key) ∧ w.cell? ⟨b, o + 1, none⟩ = some (.string z.ver.id) ∧ w.cell? ⟨b, o + 2, none⟩ = some (.int .i64 z.ver.seq) ∧ w.cell? ⟨b, o + 3, none⟩ = some (.int .i64 z.ver.stamp) ∧ w.cell? ⟨b, o + 4, none⟩ = some (.bool z.dead) ∧ w.cell? ⟨b, o + 5, none⟩ = some (.complex .f64 (fl z.x) (fl z.y)) ∧ w.cell? ⟨b, o + 6, none⟩ = some (.string z.text) ∧ w.cell? ⟨b, o + 7, none⟩ = some (.bool z.held) :=
  ⟨h 0 _ rfl, h 1 _ rfl, h 2 _ rfl, h 3 _ rfl, h 4 _ rfl, h 5 _ rfl, h 6 _ rfl, h 7 _ rfl⟩
theorem snoc_of {zs : List Itm} {k : Nat} {z : Itm} (h : zs[k]? = some z) : zs.take (k + 1) = zs.take k ++ [z] := by
  rw [List.take_add_one, h]
  rfl
theorem len_le {zs : List Itm} {k : Nat} (h : k ≤ zs.length) : (zs.take k).length = k := by rw [List.length_take]; omega
/-- A copy, half way. -/
def CopyRow (cf : Itm → List Value) (d : Nat) (e : TypeId) (w : World) (zs : List Itm) (k : Nat) (Av : Option Addr) (cv : Nat) (wr : World) : Prop :=
  wr.ownsRow w.heap.size e d (.slice Av k cv) k (rowCells cf (zs.take k)) ∧ Below w.heap.size w wr
theorem small_fl {i : Itm} (h : rightI i = true) : i.x.natAbs < 2 ^ 53 ∧ i.y.natAbs < 2 ^ 53 := right_small h
set_option maxRecDepth 100000 in
set_option maxHeartbeats 4000000 in
theorem rowTo_any (A : Option Addr) (n c : Nat) (zs : List Itm) (B : Nat) (w : World) (hB : B ≤ w.heap.size) (hz : RowAt cellsI 9 w B A n zs) (hn : n ≤ 1073741824) :
    Calls Try.prog 11 #[.slice A n c] w (OwnRow cellsP 8 46 zs w) := by
  have hl : zs.length = n := hz.1
  have HL := Lib.hid hl
  have HZ := Lib.hid hz
  clear hl hz
  go_enter Try.func11, Try.ntmps11
  go_wp2
  go_loopw [3, 4] (fun v i wr => ∃ (k : Nat) (Av : Option Addr) (cv : Nat), k ≤ n ∧ i = .int .i64 k ∧ v = .slice Av k cv ∧ Hid (CopyRow cellsP 8 46 w zs k Av cv wr)) (fun _ i _ => n - (intOf i).toNat)
  case atStart => exact ⟨0, none, 0, by omega, rfl, rfl, rown_nil _ _, Below.refl _ _⟩
  case round =>
    obtain ⟨k, Av, cv, hk, rfl, rfl, HC⟩ := hrel
    obtain ⟨hown, hbel⟩ := HC.out
    have HOw := Lib.hid hown
    have HB := Lib.hid hbel
    clear hown hbel HC
    by_cases hlt : k < n
    · obtain ⟨blk, off, rfl, hbB, z, hzk, hcell⟩ := HZ.out.get hlt
      obtain ⟨e0, e1, e2, e3, e4, e5, e6, e7, e8⟩ := cellsI_at hcell
      replace e0 := ((HB.out.mono hB).cell (p := ⟨blk, off + k * 9, none⟩) hbB).trans e0
      replace e1 := ((HB.out.mono hB).cell (p := ⟨blk, off + k * 9 + 1, none⟩) hbB).trans e1
      replace e2 := ((HB.out.mono hB).cell (p := ⟨blk, off + k * 9 + 2, none⟩) hbB).trans e2
      replace e3 := ((HB.out.mono hB).cell (p := ⟨blk, off + k * 9 + 3, none⟩) hbB).trans e3
      replace e4 := ((HB.out.mono hB).cell (p := ⟨blk, off + k * 9 + 4, none⟩) hbB).trans e4
      replace e5 := ((HB.out.mono hB).cell (p := ⟨blk, off + k * 9 + 5, none⟩) hbB).trans e5
      replace e6 := ((HB.out.mono hB).cell (p := ⟨blk, off + k * 9 + 6, none⟩) hbB).trans e6
      replace e7 := ((HB.out.mono hB).cell (p := ⟨blk, off + k * 9 + 7, none⟩) hbB).trans e7
      replace e8 := ((HB.out.mono hB).cell (p := ⟨blk, off + k * 9 + 8, none⟩) hbB).trans e8
      have HTS := Lib.hid (snoc_of hzk)
      have HX := Lib.hid (to_any z)
      have hi1 : (k : Int) < (n : Int) := by omega
      clear hcell hzk
      obtain ⟨key, ⟨d, a, s⟩, dead, x, y, text, held⟩ := z
      have HCF : Hid (cellsP ⟨key, ⟨d, a, s⟩, dead, x, y, text, held⟩ = [.int .i64 key, .string d, .int .i64 a, .int .i64 s, .bool dead, .complex .f64 (fl x) (fl y), .string text, .bool held]) := rfl
      generalize (⟨key, ⟨d, a, s⟩, dead, x, y, text, held⟩ : Itm) = z0 at HTS HCF
      unfold refV itmV at HX
      simp only at HX e0 e1 e2 e3 e4 e5 e6 e7 e8
      generalize fl x = fx at *
      generalize fl y = fy at *
      go_wp2_with fail
      refine (HX.out _).mono ?_
      rintro e w1 ⟨rfl, hb⟩
      replace HOw := Lib.hid (rown_below HOw.out hb)
      replace HB := Lib.hid (HB.out.trans (hb.mono HB.out.size))
      have hsz := HB.out.size
      clear hb e0 e1 e2 e3 e4 e5 e6 e7 e8
      have HR1 : Hid (RowAt cellsP 8 (w1.alloc (.cells #[.int .i64 key, .string d, .int .i64 a, .int .i64 s, .bool dead, .complex .f64 fx fy, .string text, .bool held] 46)) (w1.heap.size + 1) (some ⟨w1.heap.size, 0, none⟩) 1 [z0]) := one_row rowP (by rw [HCF.out]; exact heap_alloc_new w1 _)
      have HO1 := Lib.hid (HOw.out.alloc (.cells #[.int .i64 key, .string d, .int .i64 a, .int .i64 s, .bool dead, .complex .f64 fx fy, .string text, .bool held] 46))
      go_wp2_with (at_builtin; refine wpList_append_row rowP (B := w.heap.size) (v := .slice Av k cv) (n := k) (zs := zs.take k) (m := 1) (ys := [z0]) rfl _ _ rfl rfl HO1.out rfl HR1.out (by omega) (by simp; omega) ?_; intro A3 c3 w3 hown3 hg3 hat3)
      rw [← HTS.out] at hown3
      have HC3 : Hid (CopyRow cellsP 8 46 w zs (k + 1) A3 c3 w3) := ⟨hown3, (HB.out.alloc hsz _).grown hg3 (Nat.le_trans hsz (by simp)) (fun g e => (HOw.out.lt g e).1)⟩
      clear hown3 hg3 hat3
      go_wp2
      go_roundw
      case rel => exact ⟨k + 1, A3, c3, by omega, by go_num, rfl, HC3⟩
      case measure => simp [intOf]; omega
    · obtain rfl : k = n := by omega
      have HT : Hid (zs.take k = zs) := List.take_of_length_le (by have := HL.out; omega)
      go_wp2
      go_ret
      refine ⟨Av, cv, by rw [HL.out]; rfl, ?_, HB.out⟩
      have := HOw.out
      rw [HT.out] at this
      rw [HL.out]
      exact this
set_option maxRecDepth 100000 in
set_option maxHeartbeats 4000000 in
theorem rowFrom_any (A : Option Addr) (n c : Nat) (zs : List Itm) (B : Nat) (w : World) (hB : B ≤ w.heap.size) (hz : RowAt cellsP 8 w B A n zs) (hn : n ≤ 1073741824) (hsm : ∀ z ∈ zs, z.x.natAbs < 2 ^ 53 ∧ z.y.natAbs < 2 ^ 53) :
    Calls Try.prog 21 #[.slice A n c] w (OwnRow cellsI 9 28 zs w) := by
  have hl : zs.length = n := hz.1
  have HL := Lib.hid hl
  have HZ := Lib.hid hz
  clear hl hz
  go_enter Try.func21, Try.ntmps21
  go_wp2
  go_loopw [3, 4] (fun v i wr => ∃ (k : Nat) (Av : Option Addr) (cv : Nat), k ≤ n ∧ i = .int .i64 k ∧ v = .slice Av k cv ∧ Hid (CopyRow cellsI 9 28 w zs k Av cv wr)) (fun _ i _ => n - (intOf i).toNat)
  case atStart => exact ⟨0, none, 0, by omega, rfl, rfl, rown_nil _ _, Below.refl _ _⟩
  case round =>
    obtain ⟨k, Av, cv, hk, rfl, rfl, HC⟩ := hrel
    obtain ⟨hown, hbel⟩ := HC.out
    have HOw := Lib.hid hown
    have HB := Lib.hid hbel
    clear hown hbel HC
    by_cases hlt : k < n
    · obtain ⟨blk, off, rfl, hbB, z, hzk, hcell⟩ := HZ.out.get hlt
      obtain ⟨e0, e1, e2, e3, e4, e5, e6, e7⟩ := cellsP_at hcell
      replace e0 := ((HB.out.mono hB).cell (p := ⟨blk, off + k * 8, none⟩) hbB).trans e0
      replace e1 := ((HB.out.mono hB).cell (p := ⟨blk, off + k * 8 + 1, none⟩) hbB).trans e1
      replace e2 := ((HB.out.mono hB).cell (p := ⟨blk, off + k * 8 + 2, none⟩) hbB).trans e2
      replace e3 := ((HB.out.mono hB).cell (p := ⟨blk, off + k * 8 + 3, none⟩) hbB).trans e3
      replace e4 := ((HB.out.mono hB).cell (p := ⟨blk, off + k * 8 + 4, none⟩) hbB).trans e4
      replace e5 := ((HB.out.mono hB).cell (p := ⟨blk, off + k * 8 + 5, none⟩) hbB).trans e5
      replace e6 := ((HB.out.mono hB).cell (p := ⟨blk, off + k * 8 + 6, none⟩) hbB).trans e6
      replace e7 := ((HB.out.mono hB).cell (p := ⟨blk, off + k * 8 + 7, none⟩) hbB).trans e7
      have HTS := Lib.hid (snoc_of hzk)
      have HX := Lib.hid (from_any z (hsm z (List.mem_of_getElem? hzk)).1 (hsm z (List.mem_of_getElem? hzk)).2)
      have hi1 : (k : Int) < (n : Int) := by omega
      clear hcell hzk
      obtain ⟨key, ⟨d, a, s⟩, dead, x, y, text, held⟩ := z
      have HCF : Hid (cellsI ⟨key, ⟨d, a, s⟩, dead, x, y, text, held⟩ = [.int .i64 key, .string d, .int .i64 a, .int .i64 s, .bool dead, .int .i64 x, .int .i64 y, .string text, .bool held]) := rfl
      generalize (⟨key, ⟨d, a, s⟩, dead, x, y, text, held⟩ : Itm) = z0 at HTS HCF
      unfold refV itmV at HX
      simp only at HX e0 e1 e2 e3 e4 e5 e6 e7
      generalize fl x = fx at *
      generalize fl y = fy at *
      go_wp2_with fail
      refine (HX.out _).mono ?_
      rintro e w1 ⟨rfl, hb⟩
      replace HOw := Lib.hid (rown_below HOw.out hb)
      replace HB := Lib.hid (HB.out.trans (hb.mono HB.out.size))
      have hsz := HB.out.size
      clear hb e0 e1 e2 e3 e4 e5 e6 e7
      have HR1 : Hid (RowAt cellsI 9 (w1.alloc (.cells #[.int .i64 key, .string d, .int .i64 a, .int .i64 s, .bool dead, .int .i64 x, .int .i64 y, .string text, .bool held] 28)) (w1.heap.size + 1) (some ⟨w1.heap.size, 0, none⟩) 1 [z0]) := one_row rowI (by rw [HCF.out]; exact heap_alloc_new w1 _)
      have HO1 := Lib.hid (HOw.out.alloc (.cells #[.int .i64 key, .string d, .int .i64 a, .int .i64 s, .bool dead, .int .i64 x, .int .i64 y, .string text, .bool held] 28))
      go_wp2_with (at_builtin; refine wpList_append_row rowI (B := w.heap.size) (v := .slice Av k cv) (n := k) (zs := zs.take k) (m := 1) (ys := [z0]) rfl _ _ rfl rfl HO1.out rfl HR1.out (by omega) (by simp; omega) ?_; intro A3 c3 w3 hown3 hg3 hat3)
      rw [← HTS.out] at hown3
      have HC3 : Hid (CopyRow cellsI 9 28 w zs (k + 1) A3 c3 w3) := ⟨hown3, (HB.out.alloc hsz _).grown hg3 (Nat.le_trans hsz (by simp)) (fun g e => (HOw.out.lt g e).1)⟩
      clear hown3 hg3 hat3
      go_wp2
      go_roundw
      case rel => exact ⟨k + 1, A3, c3, by omega, by go_num, rfl, HC3⟩
      case measure => simp [intOf]; omega
    · obtain rfl : k = n := by omega
      have HT : Hid (zs.take k = zs) := List.take_of_length_le (by have := HL.out; omega)
      go_wp2
      go_ret
      refine ⟨Av, cv, by rw [HL.out]; rfl, ?_, HB.out⟩
      have := HOw.out
      rw [HT.out] at this
      rw [HL.out]
      exact this
end Go.Proofs.Ytpaiigminmakgaa

/- store.find: the library's binary search by the keys. -/
namespace Go.Proofs.Ytpaiigminmakgaa
open Go.RowKit

def cmpK (a b : Int) : Int := if a < b then -1 else if b < a then 1 else 0
set_option maxRecDepth 100000 in
set_option maxHeartbeats 1000000 in
theorem isNaN_any (n : Int) (w : World) : Calls Try.prog 86 #[.int .i64 n] w fun e w' => e = .returned (.bool false) ∧ w = w' := by
  go_enter Try.func86, Try.ntmps86
  go_wp2
  go_ret
  exact ⟨rfl, rfl⟩
set_option maxRecDepth 100000 in
set_option maxHeartbeats 1000000 in
theorem cmpInt_any (a b : Int) (w : World) : Calls Try.prog 77 #[.int .i64 a, .int .i64 b] w fun e w' => e = .returned (.int .i64 (cmpK a b)) ∧ w = w' := by
  have HC := Lib.hid (show cmpK a b = if a < b then -1 else if b < a then 1 else 0 from rfl)
  generalize cmpK a b = c at *
  by_cases h1 : a < b
  · rw [if_pos h1] at HC
    go_enter Try.func77, Try.ntmps77
    go_wp2_with (go_at_call 86; refine (isNaN_any _ _).mono ?_; rintro e w' ⟨rfl, rfl⟩)
    go_ret
    exact ⟨ret_int (by rw [HC.out]), rfl⟩
  · rw [if_neg h1] at HC
    by_cases h2 : b < a
    · rw [if_pos h2] at HC
      go_enter Try.func77, Try.ntmps77
      go_wp2_with (go_at_call 86; refine (isNaN_any _ _).mono ?_; rintro e w' ⟨rfl, rfl⟩)
      go_ret
      exact ⟨ret_int (by rw [HC.out]), rfl⟩
    · rw [if_neg h2] at HC
      go_enter Try.func77, Try.ntmps77
      go_wp2_with (go_at_call 86; refine (isNaN_any _ _).mono ?_; rintro e w' ⟨rfl, rfl⟩)
      go_ret
      exact ⟨ret_int (by rw [HC.out]), rfl⟩
set_option maxRecDepth 100000 in
set_option maxHeartbeats 1000000 in
theorem orderRaw (key : Int) (d : ByteArray) (a s : Int) (dead : Bool) (fx fy : Nat) (text : ByteArray) (held : Bool) (k c : Int) (hc : Hid (cmpK key k = c)) (w : World) : Calls Try.prog 61 #[.agg #[.int .i64 key, .string d, .int .i64 a, .int .i64 s, .bool dead, .complex .f64 fx fy, .string text, .bool held], .int .i64 k] w fun e w' => e = .returned (.int .i64 c) ∧ Below w.heap.size w w' := by
  have H := Lib.hid (cmpInt_any key k)
  rw [hc.out] at H
  go_enter Try.func61, Try.ntmps61
  go_wp2_with fail
  refine (H.out _).mono ?_
  rintro e w1 ⟨rfl, rfl⟩
  go_wp2
  go_ret
  exact ⟨rfl, (Below.refl _ _).alloc (Nat.le_refl _) _⟩

/-- The keys rise. -/
def Keys (zs : List Itm) : Prop := zs.Pairwise fun x y => x.key < y.key
theorem keys_lt {zs : List Itm} (h : Keys zs) {i j : Nat} {x y : Itm} (hi : zs[i]? = some x) (hj : zs[j]? = some y) (hij : i < j) : x.key < y.key := by
  obtain ⟨h1, rfl⟩ := List.getElem?_eq_some_iff.mp hi
  obtain ⟨h2, rfl⟩ := List.getElem?_eq_some_iff.mp hj
  exact List.pairwise_iff_getElem.mp h i j h1 h2 hij
def PartsK (zs : List Itm) (k : Int) (p q : Nat) : Prop := (∀ j z, zs[j]? = some z → j < p → z.key < k) ∧ (∀ j z, zs[j]? = some z → q ≤ j → k ≤ z.key)
theorem partsK_start (zs : List Itm) (k : Int) : PartsK zs k 0 zs.length := ⟨fun _ _ _ h => by omega, fun j z h hq => by have := (List.getElem?_eq_some_iff.mp h).1; omega⟩
theorem partsK_lo {zs : List Itm} {k : Int} {p q m : Nat} {x : Itm} (hs : Keys zs) (h : PartsK zs k p q) (hm : zs[m]? = some x) (hx : x.key < k) : PartsK zs k (m + 1) q := by
  refine ⟨fun j z hj hlt => ?_, h.2⟩
  rcases Nat.lt_or_ge j m with h1 | h1
  · have := keys_lt hs hj hm h1; omega
  · obtain rfl : j = m := by omega
    rw [hm] at hj
    injection hj with hj
    subst hj
    exact hx
theorem partsK_hi {zs : List Itm} {k : Int} {p q m : Nat} {x : Itm} (hs : Keys zs) (h : PartsK zs k p q) (hm : zs[m]? = some x) (hx : ¬ x.key < k) : PartsK zs k p m := by
  refine ⟨h.1, fun j z hj hle => ?_⟩
  rcases Nat.lt_or_ge m j with h1 | h1
  · have := keys_lt hs hm hj h1; omega
  · obtain rfl : j = m := by omega
    rw [hm] at hj
    injection hj with hj
    subst hj
    omega
/-- Is the key at p? -/
def isAt (zs : List Itm) (k : Int) (p : Nat) : Bool := match zs[p]? with | some z => z.key == k | none => false
/-- Where the key stands, or would stand. -/
def FoundAt (zs : List Itm) (k : Int) (e : Ending) : Prop := ∃ p : Nat, p ≤ zs.length ∧ PartsK zs k p p ∧ e = .returned (.tuple #[.int .i64 p, .bool (isAt zs k p)])
theorem cmpK_neg (a b : Int) : (cmpK a b < 0) ↔ a < b := by unfold cmpK; split <;> (try split) <;> omega
theorem cmpK_zero (a b : Int) : (cmpK a b == 0) = (a == b) := by
  rw [Bool.eq_iff_iff, beq_iff_eq, beq_iff_eq]
  unfold cmpK; split <;> (try split) <;> omega
theorem ret_tuple {p : Nat} {a b : Bool} (h : a = b) : Ending.returned (.tuple #[.int .i64 (p : Int), .bool a]) = .returned (.tuple #[.int .i64 (p : Int), .bool b]) := by rw [h]

set_option maxRecDepth 100000 in
set_option maxHeartbeats 2000000 in
theorem searchK_any (A : Option Addr) (n c : Nat) (zs : List Itm) (k : Int) (B : Nat) (w : World) (hB : B ≤ w.heap.size) (hz : RowAt cellsP 8 w B A n zs) (hn : n ≤ 1099511627776) (hs : Keys zs) :
    Calls Try.prog 60 #[.slice A n c, .int .i64 k, .func (.func 61) #[] #[]] w fun e w' => FoundAt zs k e ∧ Below w.heap.size w w' := by
  have hl : zs.length = n := hz.1
  have HL := Lib.hid hl
  have HS := Lib.hid hs
  have HZ := Lib.hid hz
  clear hl hs hz
  go_enter Try.func60, Try.ntmps60
  go_wp2
  go_loopw [9, 10, 11] (fun i j _ wr => ∃ p q : Nat, p ≤ q ∧ q ≤ n ∧ i = .int .i64 p ∧ j = .int .i64 q ∧ Hid (PartsK zs k p q) ∧ Hid (Below w.heap.size w wr)) (fun i j _ _ => ((intOf j) - (intOf i)).toNat)
  case atStart => exact ⟨0, n, by omega, by omega, rfl, rfl, by show PartsK _ _ _ _; rw [← HL.out]; exact partsK_start zs k, Below.refl _ _⟩
  case round =>
    obtain ⟨p, q, hpq, hqn, rfl, rfl, HQ, HB⟩ := hrel
    by_cases hlt : p < q
    · skip
      obtain ⟨blk, off, rfl, hbB, z, hzk, hcell⟩ := HZ.out.get (k := (p + q) / 2) (by omega)
      obtain ⟨e0, e1, e2, e3, e4, e5, e6, e7⟩ := cellsP_at hcell
      replace e0 := ((HB.out.mono hB).cell (p := ⟨blk, off + (p + q) / 2 * 8, none⟩) hbB).trans e0
      replace e1 := ((HB.out.mono hB).cell (p := ⟨blk, off + (p + q) / 2 * 8 + 1, none⟩) hbB).trans e1
      replace e2 := ((HB.out.mono hB).cell (p := ⟨blk, off + (p + q) / 2 * 8 + 2, none⟩) hbB).trans e2
      replace e3 := ((HB.out.mono hB).cell (p := ⟨blk, off + (p + q) / 2 * 8 + 3, none⟩) hbB).trans e3
      replace e4 := ((HB.out.mono hB).cell (p := ⟨blk, off + (p + q) / 2 * 8 + 4, none⟩) hbB).trans e4
      replace e5 := ((HB.out.mono hB).cell (p := ⟨blk, off + (p + q) / 2 * 8 + 5, none⟩) hbB).trans e5
      replace e6 := ((HB.out.mono hB).cell (p := ⟨blk, off + (p + q) / 2 * 8 + 6, none⟩) hbB).trans e6
      replace e7 := ((HB.out.mono hB).cell (p := ⟨blk, off + (p + q) / 2 * 8 + 7, none⟩) hbB).trans e7
      obtain ⟨y', hy⟩ : ∃ y', cmpK z.key k = y' := ⟨_, rfl⟩
      by_cases hx : y' < 0
      · have HN : Hid (PartsK zs k ((p + q) / 2 + 1) q) := partsK_lo HS.out HQ.out hzk ((cmpK_neg _ _).mp (by omega))
        generalize fl z.x = fx at *
        generalize fl z.y = fy at *
        clear hcell
        obtain ⟨key, ⟨d, a, s⟩, dead, x, y, text, held⟩ := z
        simp only at e0 e1 e2 e3 e4 e5 e6 e7 hy
        have HY := Lib.hid hy
        clear hy hzk
        go_wp2_with fail
        refine (orderRaw _ _ _ _ _ _ _ _ _ _ _ HY _).mono ?_
        rintro e w1 ⟨rfl, hb1⟩
        replace HB := Lib.hid (HB.out.trans (hb1.mono HB.out.size))
        clear hb1 e0 e1 e2 e3 e4 e5 e6 e7
        go_wp2
        go_roundw
        case rel => exact ⟨(p + q) / 2 + 1, q, by omega, by omega, by go_num, rfl, HN, HB⟩
        case measure => simp [intOf]; omega
      · have HN : Hid (PartsK zs k p ((p + q) / 2)) := partsK_hi HS.out HQ.out hzk (fun h => hx (by rw [← hy]; exact (cmpK_neg _ _).mpr h))
        generalize fl z.x = fx at *
        generalize fl z.y = fy at *
        clear hcell
        obtain ⟨key, ⟨d, a, s⟩, dead, x, y, text, held⟩ := z
        simp only at e0 e1 e2 e3 e4 e5 e6 e7 hy
        have HY := Lib.hid hy
        clear hy hzk
        go_wp2_with fail
        refine (orderRaw _ _ _ _ _ _ _ _ _ _ _ HY _).mono ?_
        rintro e w1 ⟨rfl, hb1⟩
        replace HB := Lib.hid (HB.out.trans (hb1.mono HB.out.size))
        clear hb1 e0 e1 e2 e3 e4 e5 e6 e7
        go_wp2
        go_roundw
        case rel => exact ⟨p, (p + q) / 2, by omega, by omega, rfl, by go_num, HN, HB⟩
        case measure => simp [intOf]; omega
    · obtain rfl : p = q := by omega
      by_cases hpn : p < n
      · skip
        obtain ⟨blk, off, rfl, hbB, z, hzk, hcell⟩ := HZ.out.get (k := p) (by omega)
        obtain ⟨e0, e1, e2, e3, e4, e5, e6, e7⟩ := cellsP_at hcell
        replace e0 := ((HB.out.mono hB).cell (p := ⟨blk, off + p * 8, none⟩) hbB).trans e0
        replace e1 := ((HB.out.mono hB).cell (p := ⟨blk, off + p * 8 + 1, none⟩) hbB).trans e1
        replace e2 := ((HB.out.mono hB).cell (p := ⟨blk, off + p * 8 + 2, none⟩) hbB).trans e2
        replace e3 := ((HB.out.mono hB).cell (p := ⟨blk, off + p * 8 + 3, none⟩) hbB).trans e3
        replace e4 := ((HB.out.mono hB).cell (p := ⟨blk, off + p * 8 + 4, none⟩) hbB).trans e4
        replace e5 := ((HB.out.mono hB).cell (p := ⟨blk, off + p * 8 + 5, none⟩) hbB).trans e5
        replace e6 := ((HB.out.mono hB).cell (p := ⟨blk, off + p * 8 + 6, none⟩) hbB).trans e6
        replace e7 := ((HB.out.mono hB).cell (p := ⟨blk, off + p * 8 + 7, none⟩) hbB).trans e7
        obtain ⟨y', hy⟩ : ∃ y', cmpK z.key k = y' := ⟨_, rfl⟩
        have hIA : (y' == 0) = isAt zs k p := by rw [← hy, cmpK_zero]; unfold isAt; rw [hzk]
        have HIA := Lib.hid hIA
        clear hIA
        generalize fl z.x = fx at *
        generalize fl z.y = fy at *
        clear hcell
        obtain ⟨key, ⟨d, a, s⟩, dead, x, y, text, held⟩ := z
        simp only at e0 e1 e2 e3 e4 e5 e6 e7 hy
        have HY := Lib.hid hy
        clear hy hzk
        go_wp2_with fail
        refine (orderRaw _ _ _ _ _ _ _ _ _ _ _ HY _).mono ?_
        rintro e w1 ⟨rfl, hb1⟩
        replace HB := Lib.hid (HB.out.trans (hb1.mono HB.out.size))
        clear hb1 e0 e1 e2 e3 e4 e5 e6 e7
        go_wp2
        go_ret2
        exact ⟨⟨p, by have := HL.out; omega, HQ.out, ret_tuple HIA.out⟩, HB.out⟩
      · have HIA : Hid (false = isAt zs k p) := by show _ = _; unfold isAt; rw [List.getElem?_eq_none (by have := HL.out; omega)]
        have hpn' : decide ((p : Int) < n) = false := by simp; omega
        go_wp2
        go_ret2
        exact ⟨⟨p, by have := HL.out; omega, HQ.out, ret_tuple HIA.out⟩, HB.out⟩
set_option maxRecDepth 100000 in
set_option maxHeartbeats 1000000 in
theorem find_any (A : Option Addr) (n c : Nat) (zs : List Itm) (k : Int) (B : Nat) (w : World) (hB : B ≤ w.heap.size) (hz : RowAt cellsP 8 w B A n zs) (hn : n ≤ 1099511627776) (hs : Keys zs) :
    Calls Try.prog 38 #[.slice A n c, .int .i64 k] w fun e w' => FoundAt zs k e ∧ Below w.heap.size w w' := by
  have H := Lib.hid (searchK_any A n c zs k B w hB hz hn hs)
  clear hz hs
  go_enter Try.func38, Try.ntmps38
  go_wp2_with fail
  refine H.out.mono ?_
  rintro e w1 ⟨⟨p, hp, HP, rfl⟩, hb⟩
  have HP' := Lib.hid HP
  have HB := Lib.hid hb
  clear HP hb H
  obtain ⟨b, hb⟩ : ∃ b, isAt zs k p = b := ⟨_, rfl⟩
  rw [hb]
  have HIB := Lib.hid hb
  clear hb
  go_wp2
  go_ret2
  exact ⟨⟨p, hp, HP'.out, ret_tuple HIB.out.symm⟩, HB.out⟩
end Go.Proofs.Ytpaiigminmakgaa

/- slices.Clone, Grow and Concat over rows of items. -/
namespace Go.Proofs.Ytpaiigminmakgaa
open Go.RowKit

theorem rown_empty {cf : Itm → List Value} {d : Nat} (e : TypeId) (w : World) : (w.alloc (.cells #[] e)).ownsRow w.heap.size e d (.slice (some ⟨w.heap.size, 0, none⟩) 0 0) 0 (rowCells cf []) :=
  ⟨by simp [rowCells], .inr ⟨w.heap.size, 0, #[], rfl, Nat.le_refl _, heap_alloc_new w _, Nat.le_refl _, Nat.zero_le _, by simp, by simp [rowCells]⟩⟩
set_option maxRecDepth 100000 in
set_option maxHeartbeats 1000000 in
theorem cloneR_any (A : Option Addr) (n c : Nat) (zs : List Itm) (B : Nat) (w : World) (hB : B ≤ w.heap.size) (hz : RowAt cellsP 8 w B A n zs) (hn : n ≤ 1073741824) :
    Calls Try.prog 41 #[.slice A n c] w (OwnRow cellsP 8 46 zs w) := by
  have hl := hz.1
  have hq : ∀ w, (binOp .eql 38 (.slice A n c) (.slice none 0 0)).run Try.prog w = .ok (.bool A.isNone) w := fun w => Lib.run_eql_slice_nil w 38 46 A n c 0 0 Try.underlying38
  rcases A with _ | ad
  · have h0 : n = 0 := by
      rcases Nat.eq_zero_or_pos n with h | h
      · exact h
      · obtain ⟨_, _, h, _⟩ := hz.2 h
        cases h
    subst h0
    have hnil : zs = [] := List.eq_nil_of_length_eq_zero hl
    subst hnil
    clear hz
    go_enter Try.func41, Try.ntmps41
    go_wp2
    go_ret
    exact ⟨none, 0, rfl, rown_nil _ _, Below.refl _ _⟩
  · have HB1 : Hid (Below w.heap.size w (w.alloc (.cells #[] 46))) := (Below.refl _ _).alloc (Nat.le_refl _) _
    have HO1 : Hid ((w.alloc (.cells #[] 46)).ownsRow w.heap.size 46 8 (.slice (some ⟨w.heap.size, 0, none⟩) 0 0) 0 (rowCells cellsP [])) := rown_empty 46 w
    have HZ1 : Hid (RowAt cellsP 8 (w.alloc (.cells #[] 46)) B (some ad) n zs) := hz.keep (HB1.out.mono hB)
    have HL := Lib.hid hl
    clear hz hl
    go_enter Try.func41, Try.ntmps41
    go_wp2_with (at_builtin; refine wpList_append_row rowS (B := w.heap.size) (v := .slice (some ⟨w.heap.size, 0, none⟩) 0 0) (n := 0) (zs := []) (m := n) (ys := zs) rfl _ _ rfl rfl HO1.out rfl HZ1.out (by omega) HB1.out.size ?_; intro A3 c3 w3 hown3 hg3 _; have HO3 := Lib.hid hown3; have HB3 : Hid (Below w.heap.size w w3) := HB1.out.grown hg3 HB1.out.size (fun i hi => (HO1.out.lt i hi).1); clear hown3 hg3)
    go_ret
    have h3 := HO3.out
    rw [Nat.zero_add, List.nil_append, ← HL.out] at h3
    exact ⟨A3, c3, by rw [HL.out]; rfl, h3, HB3.out⟩

/-- A row of the call's own, empty, with room. -/
def EmptyRowP (w : World) (e : Ending) (w' : World) : Prop := ∃ A c, e = .returned (.slice A 0 c) ∧ w'.ownsRow w.heap.size 46 8 (.slice A 0 c) 0 (rowCells cellsP []) ∧ Below w.heap.size w w'

set_option maxRecDepth 100000 in
set_option maxHeartbeats 1000000 in
theorem growR_nil (n : Nat) (w : World) (hn : n ≤ 1073741824) : Calls Try.prog 62 #[.slice none 0 0, .int .i64 n] w (EmptyRowP w) := by
  rcases Nat.eq_zero_or_pos n with h0 | h0
  · subst h0
    go_enter Try.func62, Try.ntmps62
    go_wp2
    go_ret
    exact ⟨none, 0, rfl, rown_nil _ _, Below.refl _ _⟩
  · obtain ⟨i0, hi, hz0, hz1, hz2⟩ := info_parts rowS.i
    have hold : (Builtin.firstCells i0.size 0 (.slice none 0 0)).run Try.prog w.drew = .ok (([] : List Value).toArray) w.drew := run_firstCells_none w.drew i0.size 0 0 0
    have hrz : ∀ ty, (Builtin.append_ #[38, 3] ty #[.slice none 0 0, .int .i64 (n : Int)]).run Try.prog w =
        .ok (.slice (some ⟨w.heap.size, 0, none⟩) n (grownCap w n 0 46)) (w.drew.alloc (.cells (([] : List Value).toArray ++ Builtin.zeroCells zeroP.cells n ++ Builtin.zeroCells zeroP.cells (grownCap w n 0 46 - n)) 46)) := fun ty => by
      have h := Lib.run_append_grow_zeros (P := Try.prog) w 38 3 ty 46 i0 zeroP .i64 .i64 Try.underlying38 Try.underlying3 hi hz0 none 0 0 [] hold n h0 (by omega) (by omega) (by omega) (by rw [hz2]; omega)
        (by rw [Nat.zero_add]; exact growslice_fits h0 (by rw [hz2]; omega))
      rw [Nat.zero_add] at h
      exact h
    have hG := grownCap_ge w n 0 46
    have hGm := grownCap_le_maxLen w n 0 46 (by unfold maxLen; omega)
    have hsz : (([] : List Value).toArray ++ Builtin.zeroCells zeroP.cells n ++ Builtin.zeroCells zeroP.cells (grownCap w n 0 46 - n)).size = grownCap w n 0 46 * 8 := by
      simp only [Array.size_append, size_zeroCells]
      simp [Value.cells, zeroP]
      omega
    generalize hcs : ([] : List Value).toArray ++ Builtin.zeroCells zeroP.cells n ++ Builtin.zeroCells zeroP.cells (grownCap w n 0 46 - n) = cs at hrz hsz
    generalize hg : grownCap w n 0 46 = G at hrz hsz hG hGm
    clear hcs hg hold
    have HR := Lib.hid hrz
    have HSz := Lib.hid hsz
    clear hrz hsz
    have hp : (0 : Int) < n := by omega
    have hG63 : G ≤ 9223372036854775807 := by unfold maxLen at hGm; omega
    have HO : Hid ((w.drew.alloc (.cells cs 46)).ownsRow w.heap.size 46 8 (.slice (some ⟨w.heap.size, 0, none⟩) 0 G) 0 (rowCells cellsP [])) :=
      ⟨by simp [rowCells], .inr ⟨w.heap.size, G, cs, rfl, Nat.le_refl _, heap_alloc_new w.drew _, Nat.zero_le _, hGm, HSz.out, by simp [rowCells]⟩⟩
    go_enter Try.func62, Try.ntmps62
    go_wp2_with (at_builtin; refine Lib.wpList_append_run _ rfl _ _ _ _ rfl _ _ rfl rfl _ _ (HR.out _) ?_)
    all_goals
      go_ret
      exact ⟨_, _, rfl, HO.out, (Below.refl _ _).drew.alloc (by simp) _⟩

/-- A part of what is put together: where it lies, its room, its items. -/
structure PartP where
  A : Option Addr
  c : Nat
  zs : List Itm
def allP (ps : List PartP) : List Itm := ps.flatMap (·.zs)
theorem allP_take (ps : List PartP) (k : Nat) (h : k < ps.length) : allP (ps.take (k + 1)) = allP (ps.take k) ++ ps[k].zs := by
  unfold allP
  rw [List.take_succ_eq_append_getElem h, List.flatMap_append]
  simp
theorem allP_le (ps : List PartP) (k : Nat) : (allP (ps.take k)).length ≤ (allP ps).length := by
  conv => rhs; rw [← List.take_append_drop k ps]
  unfold allP
  rw [List.flatMap_append, List.length_append]
  omega

set_option maxRecDepth 100000 in
set_option maxHeartbeats 2000000 in
theorem concatR_any (G L C : Nat) (ps : List PartP) (B : Nat) (w : World) (hB : B ≤ w.heap.size) (hL : ps.length = L) (hc : ∀ k (h : k < ps.length), w.cell? ⟨G, k, none⟩ = some (.slice ps[k].A ps[k].zs.length ps[k].c)) (hG : G < w.heap.size) (hz : ∀ k (h : k < ps.length), RowAt cellsP 8 w B ps[k].A ps[k].zs.length ps[k].zs)
    (hn : (allP ps).length ≤ 1073741824) (hL1 : L ≤ 1000) (_hL0 : 0 < L) :
    Calls Try.prog 39 #[.slice (some ⟨G, 0, none⟩) L C] w (OwnRow cellsP 8 46 (allP ps) w) := by
  have HC := Lib.hid hc
  have HZ := Lib.hid hz
  have HL := Lib.hid hL
  clear hc hz hL
  go_enter Try.func39, Try.ntmps39
  go_wp2
  go_loop [3, 11] (fun sz i => ∃ k : Nat, k ≤ L ∧ i = .int .i64 k ∧ sz = .int .i64 ((allP (ps.take k)).length : Int)) (fun _ i => L - (intOf i).toNat)
  case atStart => exact ⟨0, by omega, rfl, by simp [allP]⟩
  case round =>
    obtain ⟨k, hk, rfl, rfl⟩ := hrel
    rcases Nat.lt_or_ge k L with hlt | hge
    · have h1 : (k : Int) < L := by omega
      have hkp : k < ps.length := by rw [HL.out]; exact hlt
      have q0 := HC.out k hkp
      have hle := allP_le ps (k + 1)
      have he : (allP (ps.take (k + 1))).length = (allP (ps.take k)).length + ps[k].zs.length := by rw [allP_take ps k hkp]; simp
      have HE := Lib.hid he
      rw [he] at hle
      clear he
      generalize (allP (ps.take k)).length = a at *
      generalize hb : ps[k].zs.length = b at *
      generalize ps[k].A = A0 at *
      generalize ps[k].c = c0 at *
      have h2 : ¬ ((a : Int) + b < 0) := by omega
      go_wp2
      go_round
      case rel => exact ⟨k + 1, by omega, by go_num, by rw [HE.out]; go_num⟩
      case measure => simp [intOf]; omega
    · obtain rfl : k = L := by omega
      rw [show ps.take k = ps by rw [← HL.out]; exact List.take_length]
      have h1 : ¬ ((k : Int) < k) := by omega
      go_wp2_with fail
      refine (growR_nil (allP ps).length _ (by omega)).mono ?_
      rintro e w1 ⟨A1, c1, rfl, hown1, hb1⟩
      have HO1 := Lib.hid hown1
      have HB1 := Lib.hid hb1
      clear hown1 hb1
      go_wp2
      go_loopw [6, 27] (fun ns i wr => ∃ (j : Nat) (A2 : Option Addr) (c2 : Nat), j ≤ k ∧ i = .int .i64 j ∧ ns = .slice A2 (allP (ps.take j)).length c2 ∧ Hid (wr.ownsRow w.heap.size 46 8 (.slice A2 (allP (ps.take j)).length c2) (allP (ps.take j)).length (rowCells cellsP (allP (ps.take j)))) ∧ Hid (Below w.heap.size w wr)) (fun _ i _ => k - (intOf i).toNat)
      case atStart => exact ⟨0, A1, c1, by omega, rfl, rfl, HO1.out, HB1.out⟩
      case round =>
        obtain ⟨j, A2, c2, hj, rfl, rfl, HO2, HB2⟩ := hrel
        rcases Nat.lt_or_ge j k with hlt | hge
        · have h3 : (j : Int) < k := by omega
          have hjp : j < ps.length := by rw [HL.out]; exact hlt
          have r0 : wr.cell? ⟨G, j, none⟩ = some (.slice ps[j].A ps[j].zs.length ps[j].c) := (HB2.out.cell (p := ⟨G, j, none⟩) hG).trans (HC.out j hjp)
          have HZj : Hid (RowAt cellsP 8 wr B ps[j].A ps[j].zs.length ps[j].zs) := (HZ.out j hjp).keep (HB2.out.mono hB)
          have HE := Lib.hid (allP_take ps j hjp)
          have hle := allP_le ps (j + 1)
          rw [HE.out, List.length_append] at hle
          generalize allP (ps.take j) = bs at *
          generalize ps[j] = pj at *
          obtain ⟨A0, c0, b0⟩ := pj
          simp only at r0 HZj HE hle
          go_wp2_with (at_builtin; refine wpList_append_row rowS (w := wr) (B := w.heap.size) (v := .slice A2 bs.length c2) (n := bs.length) (zs := bs) (A := A0) (m := b0.length) (c := c0) (ys := b0) rfl _ _ rfl rfl HO2.out rfl HZj.out (by omega) HB2.out.size ?_; intro A3 c3 w3 hown3 hg3 _; have HO3 := Lib.hid hown3; have HB3 : Hid (Below w.heap.size w w3) := HB2.out.grown hg3 HB2.out.size (fun i hi => (HO2.out.lt i hi).1); clear hown3 hg3)
          go_roundw
          case rel =>
            refine ⟨j + 1, A3, c3, by omega, by go_num, ?_, ?_, HB3⟩
            · rw [HE.out]; simp
            · rw [HE.out]; simpa [Hid] using HO3.out
          case measure => simp [intOf]; omega
        · obtain rfl : j = k := by omega
          rw [show ps.take j = ps by rw [← HL.out]; exact List.take_length] at HO2
          rw [show ps.take j = ps by rw [← HL.out]; exact List.take_length]
          go_wp2
          go_ret
          exact ⟨A2, c2, rfl, HO2.out, HB2.out⟩
end Go.Proofs.Ytpaiigminmakgaa

/- Stores: what a key has, what there is when an item came, and without a key's. -/
namespace Go.Proofs.Ytpaiigminmakgaa
open Go.RowKit

def zeroIt : Itm := ⟨0, ⟨⟨#[]⟩, 0, 0⟩, false, 0, 0, ⟨#[]⟩, false⟩
def getF (zs : List Itm) (k : Int) : Option Itm := zs.find? fun z => z.key == k
def lowF (zs : List Itm) (k : Int) : List Itm := zs.filter fun z => decide (z.key < k)
def highF (zs : List Itm) (k : Int) : List Itm := zs.filter fun z => decide (k < z.key)
def insF (zs : List Itm) (x : Itm) : List Itm := lowF zs x.key ++ x :: highF zs x.key
def dropF (zs : List Itm) (k : Int) : List Itm := lowF zs k ++ highF zs k
theorem mem_take_of {zs : List Itm} {p : Nat} {z : Itm} (h : z ∈ zs.take p) : ∃ j, zs[j]? = some z ∧ j < p := by
  obtain ⟨j, hj⟩ := List.getElem?_of_mem h
  rw [List.getElem?_take] at hj
  split at hj
  · exact ⟨j, hj, by assumption⟩
  · cases hj
theorem mem_drop_of {zs : List Itm} {p : Nat} {z : Itm} (h : z ∈ zs.drop p) : ∃ j, zs[j]? = some z ∧ p ≤ j := by
  obtain ⟨j, hj⟩ := List.getElem?_of_mem h
  rw [List.getElem?_drop] at hj
  exact ⟨p + j, hj, by omega⟩
theorem parts_low {zs : List Itm} {k : Int} {p : Nat} (h : PartsK zs k p p) : zs.take p = lowF zs k := by
  unfold lowF
  conv => rhs; rw [← List.take_append_drop p zs, List.filter_append]
  have h1 : (zs.take p).filter (fun z => decide (z.key < k)) = zs.take p := List.filter_eq_self.mpr fun z hz => by
    obtain ⟨j, hj, hlt⟩ := mem_take_of hz
    simpa using h.1 j z hj hlt
  have h2 : (zs.drop p).filter (fun z => decide (z.key < k)) = [] := List.filter_eq_nil_iff.mpr fun z hz => by
    obtain ⟨j, hj, hle⟩ := mem_drop_of hz
    have := h.2 j z hj hle
    simp
    omega
  rw [h1, h2, List.append_nil]
theorem isAt_true {zs : List Itm} {k : Int} {p : Nat} (h : isAt zs k p = true) : ∃ z, zs[p]? = some z ∧ z.key = k := by
  unfold isAt at h
  rcases e : zs[p]? with _ | z
  · rw [e] at h; cases h
  · rw [e] at h
    exact ⟨z, rfl, by simpa using h⟩
theorem isAt_false {zs : List Itm} {k : Int} {p : Nat} {z : Itm} (h : isAt zs k p = false) (hz : zs[p]? = some z) : z.key ≠ k := by
  unfold isAt at h
  rw [hz] at h
  simpa using h
theorem parts_no {zs : List Itm} {k : Int} {p : Nat} (hs : Keys zs) (h : PartsK zs k p p) (hf : isAt zs k p = false) : ∀ j z, zs[j]? = some z → p ≤ j → k < z.key := by
  intro j z hj hle
  have h1 := h.2 j z hj hle
  rcases Nat.lt_or_ge p j with hlt | hge
  · have hp : p < zs.length := by have := (List.getElem?_eq_some_iff.mp hj).1; omega
    have hy : zs[p]? = some zs[p] := List.getElem?_eq_getElem hp
    have := keys_lt hs hy hj hlt
    have := h.2 p _ hy (Nat.le_refl _)
    omega
  · obtain rfl : p = j := by omega
    have := isAt_false hf hj
    omega
theorem parts_high {zs : List Itm} {k : Int} {p : Nat} (hs : Keys zs) (h : PartsK zs k p p) (hf : isAt zs k p = false) : zs.drop p = highF zs k := by
  unfold highF
  conv => rhs; rw [← List.take_append_drop p zs, List.filter_append]
  have h1 : (zs.take p).filter (fun z => decide (k < z.key)) = [] := List.filter_eq_nil_iff.mpr fun z hz => by
    obtain ⟨j, hj, hlt⟩ := mem_take_of hz
    have := h.1 j z hj hlt
    simp
    omega
  have h2 : (zs.drop p).filter (fun z => decide (k < z.key)) = zs.drop p := List.filter_eq_self.mpr fun z hz => by
    obtain ⟨j, hj, hle⟩ := mem_drop_of hz
    simpa using parts_no hs h hf j z hj hle
  rw [h1, h2, List.nil_append]
theorem parts_high1 {zs : List Itm} {k : Int} {p : Nat} (hs : Keys zs) (h : PartsK zs k p p) (hf : isAt zs k p = true) : zs.drop (p + 1) = highF zs k := by
  obtain ⟨y, hy, hk⟩ := isAt_true hf
  unfold highF
  conv => rhs; rw [← List.take_append_drop (p + 1) zs, List.filter_append]
  have h1 : (zs.take (p + 1)).filter (fun z => decide (k < z.key)) = [] := List.filter_eq_nil_iff.mpr fun z hz => by
    obtain ⟨j, hj, hlt⟩ := mem_take_of hz
    rcases Nat.lt_or_ge j p with hl | hg
    · have := h.1 j z hj hl
      simp
      omega
    · obtain rfl : j = p := by omega
      rw [hy] at hj
      injection hj with hj
      subst hj
      simp
      omega
  have h2 : (zs.drop (p + 1)).filter (fun z => decide (k < z.key)) = zs.drop (p + 1) := List.filter_eq_self.mpr fun z hz => by
    obtain ⟨j, hj, hle⟩ := mem_drop_of hz
    have := keys_lt hs hy hj (by omega)
    simp
    omega
  rw [h1, h2, List.nil_append]
theorem get_yes {zs : List Itm} {k : Int} {p : Nat} {z : Itm} (h : PartsK zs k p p) (hz : zs[p]? = some z) (hk : z.key = k) : getF zs k = some z := by
  unfold getF
  obtain ⟨hp, he⟩ := List.getElem?_eq_some_iff.mp hz
  conv => lhs; rw [← List.take_append_drop p zs, List.find?_append, List.drop_eq_getElem_cons hp, he]
  have h1 : (zs.take p).find? (fun z => z.key == k) = none := List.find?_eq_none.mpr fun y hy => by
    obtain ⟨j, hj, hlt⟩ := mem_take_of hy
    have := h.1 j y hj hlt
    simp
    omega
  rw [h1]
  simp [hk]
theorem get_no {zs : List Itm} {k : Int} {p : Nat} (hs : Keys zs) (h : PartsK zs k p p) (hf : isAt zs k p = false) : getF zs k = none := by
  unfold getF
  refine List.find?_eq_none.mpr fun y hy => ?_
  obtain ⟨j, hj⟩ := List.getElem?_of_mem hy
  rcases Nat.lt_or_ge j p with hl | hg
  · have := h.1 j y hj hl
    simp
    omega
  · have := parts_no hs h hf j y hj hg
    simp
    omega
theorem low_keys {zs : List Itm} {k : Int} : ∀ z ∈ lowF zs k, z.key < k := fun z hz => by simpa using (List.mem_filter.mp hz).2
theorem high_keys {zs : List Itm} {k : Int} : ∀ z ∈ highF zs k, k < z.key := fun z hz => by simpa using (List.mem_filter.mp hz).2
theorem ins_keys {zs : List Itm} {x : Itm} (hs : Keys zs) : Keys (insF zs x) := by
  unfold insF Keys
  rw [List.pairwise_append, List.pairwise_cons]
  refine ⟨hs.sublist (List.filter_sublist ..), ⟨fun y hy => high_keys y hy, hs.sublist (List.filter_sublist ..)⟩, fun y hy z hz => ?_⟩
  have h1 := low_keys y hy
  rcases List.mem_cons.mp hz with rfl | hz
  · exact h1
  · have := high_keys z hz
    omega
theorem drop_keys {zs : List Itm} {k : Int} (hs : Keys zs) : Keys (dropF zs k) := by
  unfold dropF Keys
  rw [List.pairwise_append]
  refine ⟨hs.sublist (List.filter_sublist ..), hs.sublist (List.filter_sublist ..), fun y hy z hz => ?_⟩
  have h1 := low_keys y hy
  have := high_keys z hz
  omega
theorem low_len (zs : List Itm) (k : Int) : (lowF zs k).length ≤ zs.length := List.length_filter_le _ _
theorem high_len (zs : List Itm) (k : Int) : (highF zs k).length ≤ zs.length := List.length_filter_le _ _
end Go.Proofs.Ytpaiigminmakgaa

/- store.replaces, Get, Drop, Put. -/
namespace Go.Proofs.Ytpaiigminmakgaa
open Go.RowKit

set_option maxRecDepth 100000 in
set_option maxHeartbeats 1000000 in
theorem eql_ver (d1 : ByteArray) (a1 s1 : Int) (d2 : ByteArray) (a2 s2 : Int) (w : World) : (binOp .eql 43 (.agg #[.string d1, .int .i64 a1, .int .i64 s1]) (.agg #[.string d2, .int .i64 a2, .int .i64 s2])).run Try.prog w = .ok (.bool (eqV ⟨d1, a1, s1⟩ ⟨d2, a2, s2⟩)) w := by
  unfold eqV
  rw [run_eql_struct]
  go_simp
  simp only [ite_ok]
  congr 2
  rw [Bool.eq_iff_iff]
  simp
/-- Does x stand in y's place? -/
def replF (x y : Itm) : Bool := if eqV x.ver y.ver then x.held && !y.held else !newerF y.ver x.ver
set_option maxRecDepth 100000 in
set_option maxHeartbeats 2000000 in
theorem replaces_any (x y : Itm) (w : World) : Calls Try.prog 40 #[itmV x, itmV y] w fun e w' => e = .returned (.bool (replF x y)) ∧ Below w.heap.size w w' := by
  have HR := Lib.hid (show replF x y = if eqV x.ver y.ver then x.held && !y.held else !newerF y.ver x.ver from rfl)
  have HN := Lib.hid (newer_any y.ver x.ver)
  obtain ⟨key1, ⟨d1, a1, s1⟩, dead1, x1, y1, text1, held1⟩ := x
  obtain ⟨key2, ⟨d2, a2, s2⟩, dead2, x2, y2, text2, held2⟩ := y
  have he := eql_ver d1 a1 s1 d2 a2 s2
  unfold itmV
  unfold vrsV at HN
  simp only at HR HN ⊢
  generalize replF _ _ = R at HR ⊢
  generalize newerF _ _ = nb at *
  generalize eqV _ _ = eb at *
  generalize fl x1 = fx1
  generalize fl y1 = fy1
  generalize fl x2 = fx2
  generalize fl y2 = fy2
  cases eb
  · rw [if_neg (by decide)] at HR
    go_enter Try.func40, Try.ntmps40
    go_wp2_with fail
    refine (HN.out _).mono ?_
    rintro e w1 ⟨rfl, hb⟩
    have HB : Hid (Below w.heap.size w w1) := (((Below.refl _ _).alloc (Nat.le_refl _) _).alloc (by simp) _).trans (hb.mono (by simp; omega))
    clear hb
    go_wp2
    go_ret
    exact ⟨ret_bool (by rw [HR.out]), HB.out⟩
  · rw [if_pos rfl] at HR
    cases held1
    · go_enter Try.func40, Try.ntmps40
      go_wp2
      go_ret
      exact ⟨ret_bool (by rw [HR.out]; rfl), ((Below.refl _ _).alloc (Nat.le_refl _) _).alloc (by simp) _⟩
    · go_enter Try.func40, Try.ntmps40
      go_wp2
      go_ret
      exact ⟨ret_bool (by rw [HR.out]; rfl), ((Below.refl _ _).alloc (Nat.le_refl _) _).alloc (by simp) _⟩

/-- s[p:]. -/
theorem cut_from (A : Option Addr) (n c p : Nat) (h1 : p ≤ n) (h2 : n ≤ c) : ∃ A', (∀ W, (Instr.slice 38 (.slice A n c) (some (.int .i64 (p : Int))) none none).run Try.prog W = .ok (.slice A' (n - p) (c - p)) W) ∧
    ∀ (w : World) (B : Nat) (zs : List Itm), RowAt cellsP 8 w B A n zs → RowAt cellsP 8 w B A' (n - p) (zs.drop p) := by
  have hel : Try.prog.elem 38 = 46 := by kernel_rfl
  have hsz : ∀ W, (sizeOf 46).run Try.prog W = .ok 8 W := fun W => by
    obtain ⟨i, hi, _, hz1, _⟩ := info_parts rowS.i
    simp [sizeOf, typeInfo, hi, hz1]
  refine ⟨if c = p then A else A.map (fun x => x.add (p * 8)), fun W => ?_, fun w B zs h => ?_⟩
  · rw [run_slice_l (P := Try.prog) W 38 A n c (by rw [hel]; exact Try.underlying38) .i64 (p : Int) (by omega) (by omega), hel, hsz]
    simp [sliced, Result.andThen]
  · refine ⟨by rw [List.length_drop, h.1], fun hp => ?_⟩
    obtain ⟨b, off, rfl, hb, hc⟩ := h.2 (by omega)
    rw [if_neg (by omega), Option.map_some, radd]
    refine ⟨b, off + p * 8, rfl, hb, fun k hk j u hu => ?_⟩
    rw [List.length_drop] at hk
    rw [List.getElem_drop] at hu
    have := hc (p + k) (by omega) j u hu
    rw [show off + p * 8 + k * 8 + j = off + (p + k) * 8 + j by omega]
    exact this
/-- s[:p]. -/
theorem cut_upto (A : Option Addr) (n c p : Nat) (h1 : p ≤ n) (h2 : n ≤ c) : ∀ W, (Instr.slice 38 (.slice A n c) none (some (.int .i64 (p : Int))) none).run Try.prog W = .ok (.slice A p c) W := by
  intro W
  have hel : Try.prog.elem 38 = 46 := by kernel_rfl
  have hsz : ∀ W, (sizeOf 46).run Try.prog W = .ok 8 W := fun W => by
    obtain ⟨i, hi, _, hz1, _⟩ := info_parts rowS.i
    simp [sizeOf, typeInfo, hi, hz1]
  rw [run_slice_h (P := Try.prog) W 38 A n c (by rw [hel]; exact Try.underlying38) .i64 (p : Int) (by omega) (by omega), hel, hsz]
  cases A <;> simp [sliced, Result.andThen, Addr.add]
/-- What Get answers. -/
def GetV (o : Option Itm) : Value := .tuple #[itmV (o.getD zeroIt), .bool o.isSome]
theorem getV_none : GetV none = .tuple #[.agg #[.int .i64 0, .string ⟨#[]⟩, .int .i64 0, .int .i64 0, .bool false, .complex .f64 0 0, .string ⟨#[]⟩, .bool false], .bool false] := by
  unfold GetV itmV zeroIt
  simp only [Option.getD_none, zero_fl]
  rfl
set_option maxRecDepth 100000 in
set_option maxHeartbeats 2000000 in
theorem getS_any (A : Option Addr) (n c : Nat) (zs : List Itm) (k : Int) (B : Nat) (w : World) (hB : B ≤ w.heap.size) (hz : RowAt cellsP 8 w B A n zs) (hn : n ≤ 1099511627776) (hs : Keys zs) :
    Calls Try.prog 19 #[.slice A n c, .int .i64 k] w fun e w' => e = .returned (GetV (getF zs k)) ∧ Below w.heap.size w w' := by
  have hb0 : Below w.heap.size w (w.alloc (.cells #[.int .i64 0, .string ⟨#[]⟩, .int .i64 0, .int .i64 0, .bool false, .complex .f64 0 0, .string ⟨#[]⟩, .bool false] 46)) := (Below.refl _ _).alloc (Nat.le_refl _) _
  have HZ := Lib.hid hz
  have H := Lib.hid (find_any A n c zs k B (w.alloc (.cells #[.int .i64 0, .string ⟨#[]⟩, .int .i64 0, .int .i64 0, .bool false, .complex .f64 0 0, .string ⟨#[]⟩, .bool false] 46)) (by simp; omega) (hz.keep (hb0.mono hB)) hn hs)
  have HS := Lib.hid hs
  have HL := Lib.hid hz.1
  clear hz hs
  have hst := store_complex
  go_enter Try.func19, Try.ntmps19
  go_wp2_with fail
  refine H.out.mono ?_
  rintro e w1 ⟨⟨p, hp, HP, rfl⟩, hb⟩
  have z0 : (w.alloc (.cells #[.int .i64 0, .string ⟨#[]⟩, .int .i64 0, .int .i64 0, .bool false, .complex .f64 0 0, .string ⟨#[]⟩, .bool false] 46)).cell? ⟨w.heap.size, 0, none⟩ = some (.int .i64 0) := by simp [go_sem]
  have zf0 : (w.alloc (.cells #[.int .i64 0, .string ⟨#[]⟩, .int .i64 0, .int .i64 0, .bool false, .complex .f64 0 0, .string ⟨#[]⟩, .bool false] 46)).frozen? ⟨w.heap.size, 0, none⟩ = false := by simp [go_sem]
  have z1 : (w.alloc (.cells #[.int .i64 0, .string ⟨#[]⟩, .int .i64 0, .int .i64 0, .bool false, .complex .f64 0 0, .string ⟨#[]⟩, .bool false] 46)).cell? ⟨w.heap.size, 1, none⟩ = some (.string ⟨#[]⟩) := by simp [go_sem]
  have zf1 : (w.alloc (.cells #[.int .i64 0, .string ⟨#[]⟩, .int .i64 0, .int .i64 0, .bool false, .complex .f64 0 0, .string ⟨#[]⟩, .bool false] 46)).frozen? ⟨w.heap.size, 1, none⟩ = false := by simp [go_sem]
  have z2 : (w.alloc (.cells #[.int .i64 0, .string ⟨#[]⟩, .int .i64 0, .int .i64 0, .bool false, .complex .f64 0 0, .string ⟨#[]⟩, .bool false] 46)).cell? ⟨w.heap.size, 2, none⟩ = some (.int .i64 0) := by simp [go_sem]
  have zf2 : (w.alloc (.cells #[.int .i64 0, .string ⟨#[]⟩, .int .i64 0, .int .i64 0, .bool false, .complex .f64 0 0, .string ⟨#[]⟩, .bool false] 46)).frozen? ⟨w.heap.size, 2, none⟩ = false := by simp [go_sem]
  have z3 : (w.alloc (.cells #[.int .i64 0, .string ⟨#[]⟩, .int .i64 0, .int .i64 0, .bool false, .complex .f64 0 0, .string ⟨#[]⟩, .bool false] 46)).cell? ⟨w.heap.size, 3, none⟩ = some (.int .i64 0) := by simp [go_sem]
  have zf3 : (w.alloc (.cells #[.int .i64 0, .string ⟨#[]⟩, .int .i64 0, .int .i64 0, .bool false, .complex .f64 0 0, .string ⟨#[]⟩, .bool false] 46)).frozen? ⟨w.heap.size, 3, none⟩ = false := by simp [go_sem]
  have z4 : (w.alloc (.cells #[.int .i64 0, .string ⟨#[]⟩, .int .i64 0, .int .i64 0, .bool false, .complex .f64 0 0, .string ⟨#[]⟩, .bool false] 46)).cell? ⟨w.heap.size, 4, none⟩ = some (.bool false) := by simp [go_sem]
  have zf4 : (w.alloc (.cells #[.int .i64 0, .string ⟨#[]⟩, .int .i64 0, .int .i64 0, .bool false, .complex .f64 0 0, .string ⟨#[]⟩, .bool false] 46)).frozen? ⟨w.heap.size, 4, none⟩ = false := by simp [go_sem]
  have z5 : (w.alloc (.cells #[.int .i64 0, .string ⟨#[]⟩, .int .i64 0, .int .i64 0, .bool false, .complex .f64 0 0, .string ⟨#[]⟩, .bool false] 46)).cell? ⟨w.heap.size, 5, none⟩ = some (.complex .f64 0 0) := by simp [go_sem]
  have zf5 : (w.alloc (.cells #[.int .i64 0, .string ⟨#[]⟩, .int .i64 0, .int .i64 0, .bool false, .complex .f64 0 0, .string ⟨#[]⟩, .bool false] 46)).frozen? ⟨w.heap.size, 5, none⟩ = false := by simp [go_sem]
  have z6 : (w.alloc (.cells #[.int .i64 0, .string ⟨#[]⟩, .int .i64 0, .int .i64 0, .bool false, .complex .f64 0 0, .string ⟨#[]⟩, .bool false] 46)).cell? ⟨w.heap.size, 6, none⟩ = some (.string ⟨#[]⟩) := by simp [go_sem]
  have zf6 : (w.alloc (.cells #[.int .i64 0, .string ⟨#[]⟩, .int .i64 0, .int .i64 0, .bool false, .complex .f64 0 0, .string ⟨#[]⟩, .bool false] 46)).frozen? ⟨w.heap.size, 6, none⟩ = false := by simp [go_sem]
  have z7 : (w.alloc (.cells #[.int .i64 0, .string ⟨#[]⟩, .int .i64 0, .int .i64 0, .bool false, .complex .f64 0 0, .string ⟨#[]⟩, .bool false] 46)).cell? ⟨w.heap.size, 7, none⟩ = some (.bool false) := by simp [go_sem]
  have zf7 : (w.alloc (.cells #[.int .i64 0, .string ⟨#[]⟩, .int .i64 0, .int .i64 0, .bool false, .complex .f64 0 0, .string ⟨#[]⟩, .bool false] 46)).frozen? ⟨w.heap.size, 7, none⟩ = false := by simp [go_sem]
  have zz : w.heap.size < (w.alloc (.cells #[.int .i64 0, .string ⟨#[]⟩, .int .i64 0, .int .i64 0, .bool false, .complex .f64 0 0, .string ⟨#[]⟩, .bool false] 46)).heap.size := by simp <;> omega
  replace z0 := (hb.cell (p := ⟨w.heap.size, 0, none⟩) zz).trans z0
  replace zf0 := (hb.frozen (p := ⟨w.heap.size, 0, none⟩) zz).trans zf0
  replace z1 := (hb.cell (p := ⟨w.heap.size, 1, none⟩) zz).trans z1
  replace zf1 := (hb.frozen (p := ⟨w.heap.size, 1, none⟩) zz).trans zf1
  replace z2 := (hb.cell (p := ⟨w.heap.size, 2, none⟩) zz).trans z2
  replace zf2 := (hb.frozen (p := ⟨w.heap.size, 2, none⟩) zz).trans zf2
  replace z3 := (hb.cell (p := ⟨w.heap.size, 3, none⟩) zz).trans z3
  replace zf3 := (hb.frozen (p := ⟨w.heap.size, 3, none⟩) zz).trans zf3
  replace z4 := (hb.cell (p := ⟨w.heap.size, 4, none⟩) zz).trans z4
  replace zf4 := (hb.frozen (p := ⟨w.heap.size, 4, none⟩) zz).trans zf4
  replace z5 := (hb.cell (p := ⟨w.heap.size, 5, none⟩) zz).trans z5
  replace zf5 := (hb.frozen (p := ⟨w.heap.size, 5, none⟩) zz).trans zf5
  replace z6 := (hb.cell (p := ⟨w.heap.size, 6, none⟩) zz).trans z6
  replace zf6 := (hb.frozen (p := ⟨w.heap.size, 6, none⟩) zz).trans zf6
  replace z7 := (hb.cell (p := ⟨w.heap.size, 7, none⟩) zz).trans z7
  replace zf7 := (hb.frozen (p := ⟨w.heap.size, 7, none⟩) zz).trans zf7
  replace zz := Nat.lt_of_lt_of_le zz hb.size
  have HB : Hid (Below w.heap.size w w1) := hb0.trans (hb.mono (by simp))
  have HPK := Lib.hid HP
  clear hb hb0 HP H
  rcases hf : isAt zs k p with _ | _
  · have HG := Lib.hid (get_no HS.out HPK.out hf)
    clear hf
    go_wp2
    refine bodyPost_ret (v := .tuple #[.agg #[.int .i64 0, .string ⟨#[]⟩, .int .i64 0, .int .i64 0, .bool false, .complex .f64 0 0, .string ⟨#[]⟩, .bool false], .bool false]) ?_ rfl ?_
    · simp [results, Try.results19, go_sem, z0, z1, z2, z3, z4, z5, z6, z7]
    · refine ⟨?_, by repeat (first | with_reducible exact HB.out | with_reducible refine Below.setCell ?_ (by simp) _)⟩
      rw [HG.out, getV_none]
  · obtain ⟨y, hy, hk⟩ := isAt_true hf
    have HG := Lib.hid (get_yes HPK.out hy hk)
    clear hf hk
    have hpn : p < n := by have := (List.getElem?_eq_some_iff.mp hy).1; have := HL.out; omega
    have hpn' : (p : Int) < n := by omega
    obtain ⟨blk, off, rfl, hbB, y', hy', hcell⟩ := HZ.out.get hpn
    obtain rfl : y' = y := by rw [hy] at hy'; injection hy' with e; exact e.symm
    obtain ⟨e0, e1, e2, e3, e4, e5, e6, e7⟩ := cellsP_at hcell
    replace e0 := ((HB.out.mono hB).cell (p := ⟨blk, off + p * 8, none⟩) hbB).trans e0
    replace e1 := ((HB.out.mono hB).cell (p := ⟨blk, off + p * 8 + 1, none⟩) hbB).trans e1
    replace e2 := ((HB.out.mono hB).cell (p := ⟨blk, off + p * 8 + 2, none⟩) hbB).trans e2
    replace e3 := ((HB.out.mono hB).cell (p := ⟨blk, off + p * 8 + 3, none⟩) hbB).trans e3
    replace e4 := ((HB.out.mono hB).cell (p := ⟨blk, off + p * 8 + 4, none⟩) hbB).trans e4
    replace e5 := ((HB.out.mono hB).cell (p := ⟨blk, off + p * 8 + 5, none⟩) hbB).trans e5
    replace e6 := ((HB.out.mono hB).cell (p := ⟨blk, off + p * 8 + 6, none⟩) hbB).trans e6
    replace e7 := ((HB.out.mono hB).cell (p := ⟨blk, off + p * 8 + 7, none⟩) hbB).trans e7
    have HG' := Lib.hid (show GetV (some y') = .tuple #[itmV y', .bool true] from rfl)
    unfold itmV at HG'
    rw [← HG.out] at HG'
    clear hy hy' hcell HG
    obtain ⟨key, ⟨d, a, s⟩, dead, x, y, text, held⟩ := y'
    simp only at e0 e1 e2 e3 e4 e5 e6 e7 HG'
    generalize fl x = fx at *
    generalize fl y = fy at *
    go_wp2
    refine bodyPost_ret (v := .tuple #[.agg #[.int .i64 key, .string d, .int .i64 a, .int .i64 s, .bool dead, .complex .f64 fx fy, .string text, .bool held], .bool true]) ?_ rfl ?_
    · simp [results, Try.results19, go_sem, z0, z1, z2, z3, z4, z5, z6, z7]
    · exact ⟨by rw [HG'.out], by repeat (first | with_reducible exact HB.out | with_reducible refine Below.setCell ?_ (by simp) _)⟩
end Go.Proofs.Ytpaiigminmakgaa
