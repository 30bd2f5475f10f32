/- Items: when two are the same, as the program has them and as the document's answer has them; of Fix's and of a stub's. -/
import Derived.Test.YtpaiigminmakgaaLh
import Derived.Laws.StructEq
namespace Go.Proofs.Ytpaiigminmakgaa
open Go.RowKit

def eqV (a b : Vrs) : Bool := (a.id.toList == b.id.toList) && ((a.seq == b.seq) && (a.stamp == b.stamp))
def eqI (i j : Itm) : Bool := (i.key == j.key) && (eqV i.ver j.ver && ((i.dead == j.dead) && (((i.x == j.x) && (i.y == j.y)) && ((i.text.toList == j.text.toList) && (i.held == j.held)))))
theorem toList_inj {a b : ByteArray} (h : a.toList = b.toList) : a = b := by
  rw [Lib.toList_data, Lib.toList_data] at h
  obtain ⟨⟨x⟩⟩ := a
  obtain ⟨⟨y⟩⟩ := b
  simpa using h
theorem eqV_iff (a b : Vrs) : eqV a b = true ↔ a = b := by
  obtain ⟨a1, a2, a3⟩ := a
  obtain ⟨b1, b2, b3⟩ := b
  simp only [eqV, Bool.and_eq_true, beq_iff_eq, Vrs.mk.injEq]
  exact ⟨fun h => ⟨toList_inj h.1, h.2⟩, fun h => ⟨by rw [h.1], h.2⟩⟩
theorem eqI_iff (i j : Itm) : eqI i j = true ↔ i = j := by
  obtain ⟨i1, i2, i3, i4, i5, i6, i7⟩ := i
  obtain ⟨j1, j2, j3, j4, j5, j6, j7⟩ := j
  simp only [eqI, Bool.and_eq_true, beq_iff_eq, Itm.mk.injEq, eqV_iff]
  exact ⟨fun h => ⟨h.1, h.2.1, h.2.2.1, h.2.2.2.1.1, h.2.2.2.1.2, toList_inj h.2.2.2.2.1, h.2.2.2.2.2⟩, fun h => ⟨h.1, h.2.1, h.2.2.1, ⟨h.2.2.2.1, h.2.2.2.2.1⟩, by rw [h.2.2.2.2.2.1], h.2.2.2.2.2.2⟩⟩
theorem eqI_same (i : Itm) : eqI i i = true := (eqI_iff i i).2 rfl

theorem ite_ok (p : Prop) [Decidable p] (a : Bool) (w : World) : (if p then Result.ok (Value.bool a) w else Result.ok (Value.bool false) w) = Result.ok (Value.bool (decide p && a)) w := by
  by_cases h : p <;> simp [h]
theorem ite_no (p : Prop) [Decidable p] (a : Bool) (w : World) : (if p then Result.ok (Value.bool false) w else Result.ok (Value.bool a) w) = Result.ok (Value.bool (decide (¬ p) && a)) w := by
  by_cases h : p <;> simp [h]
theorem run_equalIn_complex {P : Program} (w : World) (d : Nat) (t : TypeId) (k k' : FloatKind) (a b a' b' : Nat) (h : P.underlying t = some (.complex k')) : (Op.equalIn (d + 1) t (.complex k a b) (.complex k a' b')).run P w = .ok (Op.floatEq k a a' && Op.floatEq k b b') w := by
  simp [Op.equalIn, run_underlying h]
theorem floatEq_fl (a b : Int) (ha : a.natAbs < 2 ^ 53) (hb : b.natAbs < 2 ^ 53) : Op.floatEq .f64 (fl a) (fl b) = (a == b) := by
  unfold Op.floatEq
  rw [eql_fl a b ha hb]
  rfl

set_option maxRecDepth 100000 in
set_option maxHeartbeats 1000000 in
theorem eql_ref (i j : Itm) (w : World) : (binOp .eql 28 (refV i) (refV j)).run Try.prog w = .ok (.bool (eqI i j)) w := by
  obtain ⟨i1, ⟨d1, a1, s1⟩, i3, i4, i5, i6, i7⟩ := i
  obtain ⟨j1, ⟨d2, a2, s2⟩, j3, j4, j5, j6, j7⟩ := j
  unfold refV eqI eqV
  simp only
  rw [run_eql_struct]
  go_simp
  simp only [ite_ok]
  congr 2
  rw [Bool.eq_iff_iff]
  simp [and_assoc]

set_option maxRecDepth 100000 in
set_option maxHeartbeats 1000000 in
theorem eql_item (i j : Itm) (hi1 : i.x.natAbs < 2 ^ 53) (hi2 : i.y.natAbs < 2 ^ 53) (hj1 : j.x.natAbs < 2 ^ 53) (hj2 : j.y.natAbs < 2 ^ 53) (w : World) : (binOp .eql 46 (itmV i) (itmV j)).run Try.prog w = .ok (.bool (eqI i j)) w := by
  obtain ⟨i1, ⟨d1, a1, s1⟩, i3, i4, i5, i6, i7⟩ := i
  obtain ⟨j1, ⟨d2, a2, s2⟩, j3, j4, j5, j6, j7⟩ := j
  have e1 := floatEq_fl i4 j4 hi1 hj1
  have e2 := floatEq_fl i5 j5 hi2 hj2
  have hx := @run_equalIn_complex Try.prog
  unfold itmV eqI eqV
  simp only
  generalize fl i4 = f4 at *
  generalize fl i5 = f5 at *
  generalize fl j4 = g4 at *
  generalize fl j5 = g5 at *
  rw [run_eql_struct]
  go_simp
  simp only [ite_ok, ite_no]
  congr 2
  rw [Bool.eq_iff_iff]
  simp [and_assoc]

theorem zsize : (ByteArray.mk #[]).size = 0 := rfl
theorem keyF_in (n : Int) : 0 ≤ keyF n ∧ keyF n < 32 := by unfold keyF; omega
theorem cntF_in (n : Int) : 1 ≤ cntF n ∧ cntF n ≤ 60 := by unfold cntF; omega
theorem cutF_size (t : ByteArray) : (cutF t).size ≤ 16 := by unfold cutF; rw [ByteArray.size_extract]; omega
theorem fix_right (i : Itm) : rightI (fixI i) = true := by
  obtain ⟨key, ⟨d, a, s⟩, dead, x, y, text, held⟩ := i
  have h1 := keyF_in key
  have h2 := cntF_in a
  have h3 := cntF_in s
  have h4 := spotF_in x
  have h5 := spotF_in y
  have h6 := cutF_size text
  have h7 := fixL_right d.data.toList
  have c2 : countsF (cntF a) = true := by unfold countsF; simp; omega
  have c3 : countsF (cntF s) = true := by unfold countsF; simp; omega
  unfold fixI rightI rightV wholeF withinF
  simp only [c2, c3, h7]
  cases dead <;> cases held <;> simp [zsize] <;> omega
theorem right_small {i : Itm} (h : rightI i = true) : i.x.natAbs < 2 ^ 53 ∧ i.y.natAbs < 2 ^ 53 := by
  have h1 := whole_bounds (right_bounds h).2.2.2.1
  have : (2 : Nat) ^ 53 = 9007199254740992 := by decide
  omega
theorem stub_right {i : Itm} (h : rightI i = true) : rightI (stubI i) = true := by
  obtain ⟨key, v, dead, x, y, text, held⟩ := i
  unfold stubI rightI at *
  simp only [Bool.and_eq_true, Bool.not_eq_true'] at h ⊢
  obtain ⟨h1, h2, h3, h4, h5, h6, h7⟩ := h
  refine ⟨h1, h2, h3, h4, by simp [zsize], ?_, by simp [zsize]⟩
  cases dead <;> cases held <;> simp_all
theorem stub_stub (i : Itm) : stubI (stubI i) = stubI i := rfl
end Go.Proofs.Ytpaiigminmakgaa
