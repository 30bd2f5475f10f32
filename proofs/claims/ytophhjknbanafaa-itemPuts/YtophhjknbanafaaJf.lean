/- ItemNewer, walked. -/
import Derived.Test.YtophhjknbanafaaJe
namespace Go.Proofs.Ytophhjknbanafaa
open Go.RowKit

set_option maxRecDepth 100000 in
set_option maxHeartbeats 1000000 in
theorem ver_raw (d : ByteArray) (a s : Int) (w : World) : Calls Try.prog 10 #[.agg #[.string d, .int .i64 a, .int .i64 s]] w fun e w' => e = .returned (.agg #[.string d, .int .i64 a, .int .i64 s]) ∧ Below w.heap.size w w' := by
  go_enter Try.func10, Try.ntmps10
  go_wp2
  refine bodyPost_ret (v := .agg #[.string d, .int .i64 a, .int .i64 s]) ?_ rfl ?_
  · simp [results, Try.results10, go_sem]
  · exact ⟨rfl, ((Below.refl _ _).alloc (Nat.le_refl _) _).alloc (by simp) _⟩
theorem newer_raw (d1 : ByteArray) (a1 s1 : Int) (d2 : ByteArray) (a2 s2 : Int) (w : World) : Calls Try.prog 9 #[.agg #[.string d1, .int .i64 a1, .int .i64 s1], .agg #[.string d2, .int .i64 a2, .int .i64 s2]] w fun e w' => e = .returned (.bool (newerF ⟨d1, a1, s1⟩ ⟨d2, a2, s2⟩)) ∧ Below w.heap.size w w' := newer_any ⟨d1, a1, s1⟩ ⟨d2, a2, s2⟩ w

theorem below_drawn {w w1 w2 : World} (h : Below w.heap.size w w1) (hd : Drawn w1 w2) : Below w.heap.size w w2 := by
  obtain ⟨n, rfl⟩ := hd
  exact h.trans ⟨rfl, rfl, rfl, Nat.le_refl _, fun _ _ => rfl⟩

set_option maxRecDepth 100000 in
set_option maxHeartbeats 1000000 in
theorem rnewer_raw (d1 : ByteArray) (a1 s1 : Int) (d2 : ByteArray) (a2 s2 : Int) (h1 : d1.size ≤ 9223372036854775807) (w : World) : Calls Try.prog 12 #[.agg #[.string d1, .int .i64 a1, .int .i64 s1], .agg #[.string d2, .int .i64 a2, .int .i64 s2]] w fun e w' => e = .returned (.bool (newerF ⟨d1, a1, s1⟩ ⟨d2, a2, s2⟩)) ∧ Below w.heap.size w w' := by
  have HN := Lib.hid (show newerF ⟨d1, a1, s1⟩ ⟨d2, a2, s2⟩ = if s1 = s2 then decide (0 < Lib.compareBytes d1.data.toList d2.data.toList) else decide (s2 < s1) from rfl)
  generalize newerF ⟨d1, a1, s1⟩ ⟨d2, a2, s2⟩ = N at *
  have HC : Hid (∀ w, Calls Try.prog 30 #[.string d1, .string d2] w fun e w' => e = .returned (.int .i64 (Lib.compareBytes d1.data.toList d2.data.toList)) ∧ Hid (Drawn w w')) := fun w => rcompare_any d1 d2 w h1
  generalize Lib.compareBytes d1.data.toList d2.data.toList = c at *
  clear h1
  by_cases h : s1 = s2
  · subst h
    rw [if_pos rfl] at HN
    go_enter Try.func12, Try.ntmps12
    go_wp2_with fail
    refine (HC.out _).mono ?_
    rintro e w1 ⟨rfl, hd⟩
    have HB : Hid (Below w.heap.size w w1) := below_drawn (((Below.refl _ _).alloc (Nat.le_refl _) _).alloc (by simp) _) hd.out
    clear hd
    go_wp2
    go_ret
    exact ⟨ret_bool (by rw [HN.out]), HB.out⟩
  · rw [if_neg h] at HN
    by_cases h2 : s2 < s1
    · rw [decide_eq_true h2] at HN
      have h1 : (s1 == s2) = false := by simpa using h
      go_enter Try.func12, Try.ntmps12
      go_wp2
      go_ret
      exact ⟨ret_bool (by rw [HN.out]), ((Below.refl _ _).alloc (Nat.le_refl _) _).alloc (by simp) _⟩
    · rw [decide_eq_false h2] at HN
      have h1 : (s1 == s2) = false := by simpa using h
      go_enter Try.func12, Try.ntmps12
      go_wp2
      go_ret
      exact ⟨ret_bool (by rw [HN.out]), ((Below.refl _ _).alloc (Nat.le_refl _) _).alloc (by simp) _⟩

theorem newer_true {a b : Vrs} (h : newerF a b = true) : b.stamp < a.stamp ∨ a.stamp = b.stamp ∧ 0 < Lib.compareBytes a.id.data.toList b.id.data.toList := by
  unfold newerF at h
  split at h
  · exact .inr ⟨by assumption, by simpa using h⟩
  · exact .inl (by simpa using h)
theorem newer_of {a b : Vrs} (h : b.stamp < a.stamp ∨ a.stamp = b.stamp ∧ 0 < Lib.compareBytes a.id.data.toList b.id.data.toList) : newerF a b = true := by
  unfold newerF
  split
  · rcases h with h | h
    · omega
    · simpa using h.2
  · rcases h with h | h
    · simpa using h
    · omega
theorem newer_not {a b : Vrs} (h : newerF a b = true) : newerF b a = false := by
  cases e : newerF b a with
  | false => rfl
  | true =>
    have h1 := newer_true h
    have h2 := newer_true e
    have h3 := cmp_neg a.id.data.toList b.id.data.toList
    omega
theorem newer_same {a b : Vrs} (h : newerF a b = false) (h' : newerF b a = false) : a.stamp = b.stamp ∧ a.id = b.id := by
  have h1 : ¬ (b.stamp < a.stamp ∨ a.stamp = b.stamp ∧ 0 < Lib.compareBytes a.id.data.toList b.id.data.toList) := fun x => by rw [newer_of x] at h; cases h
  have h2 : ¬ (a.stamp < b.stamp ∨ b.stamp = a.stamp ∧ 0 < Lib.compareBytes b.id.data.toList a.id.data.toList) := fun x => by rw [newer_of x] at h'; cases h'
  have h3 := cmp_neg a.id.data.toList b.id.data.toList
  have hs : a.stamp = b.stamp := by omega
  have h0 : Lib.compareBytes a.id.data.toList b.id.data.toList = 0 := by
    have h4 : ¬ 0 < Lib.compareBytes a.id.data.toList b.id.data.toList := fun x => h1 (.inr ⟨hs, x⟩)
    have h5 : ¬ 0 < Lib.compareBytes b.id.data.toList a.id.data.toList := fun x => h2 (.inr ⟨hs.symm, x⟩)
    omega
  exact ⟨hs, ByteArray.ext (Array.ext' ((cmp_zero _ _).mp h0))⟩
theorem cmp_pos_trans (a b c : List UInt8) (h1 : 0 < Lib.compareBytes a b) (h2 : 0 < Lib.compareBytes b c) : 0 < Lib.compareBytes a c := by
  have n1 := cmp_neg a b
  have n2 := cmp_neg b c
  have n3 := cmp_neg a c
  have t1 := cmp_trans c b a (by omega) (by omega)
  rcases cmp_three c a with e | e | e
  · omega
  · have := (cmp_zero c a).mp e
    subst this
    have := cmp_trans c b c (by omega) (by omega)
    have h3 := cmp_trans b c b
    omega
  · omega
theorem newer_trans {a b c : Vrs} (h1 : newerF a b = true) (h2 : newerF b c = true) : newerF a c = true := by
  have h3 := newer_true h1
  have h4 := newer_true h2
  apply newer_of
  rcases h3 with h3 | h3
  · left; omega
  · rcases h4 with h4 | h4
    · left; omega
    · exact .inr ⟨by omega, cmp_pos_trans _ _ _ h3.2 h4.2⟩
theorem below_via {B : Nat} {a w W w1 : World} (h : Below B a w) (hb : Below W.heap.size W w1) (hB : B ≤ w.heap.size) (hs : W.os = w.os ∧ W.tape = w.tape ∧ W.output = w.output ∧ W.heap = w.heap) : Below B a w1 := by
  obtain ⟨h1, h2, h3, h4⟩ := hs
  exact ⟨hb.os.trans (h1.trans h.os), hb.tape.trans (h2.trans h.tape), hb.output.trans (h3.trans h.output), Nat.le_trans h.size (by rw [← h4]; exact hb.size), fun k hk => (hb.block k (by rw [h4]; omega)).trans (by rw [h4]; exact h.block k hk)⟩

set_option maxRecDepth 100000 in
set_option maxHeartbeats 8000000 in
theorem itemNewer_walk (da : ByteArray) (qa sa : Int) (db : ByteArray) (qb sb : Int) (dc : ByteArray) (qc sc : Int) (w : World) (ha : da.size ≤ 9223372036854775807) (_hb : db.size ≤ 9223372036854775807) (_hc : dc.size ≤ 9223372036854775807) :
    Calls Try.prog 3 #[.agg #[.string da, .int .i64 qa, .int .i64 sa], .agg #[.string db, .int .i64 qb, .int .i64 sb], .agg #[.string dc, .int .i64 qc, .int .i64 sc]] w fun e w' => e = .returned (.bool true) ∧ Below w.heap.size w w' := by
  have HA := Lib.hid ha
  clear ha
  go_enter Try.func3, Try.ntmps3
  go_upto_region 1 with fail
  have k00 : (((w.alloc (.cells #[.string da, .int .i64 qa, .int .i64 sa] 23)).alloc (.cells #[.string db, .int .i64 qb, .int .i64 sb] 23)).alloc (.cells #[.string dc, .int .i64 qc, .int .i64 sc] 23)).cell? ⟨w.heap.size, 0, none⟩ = some (.string da) := by simp [go_sem]
  have k01 : (((w.alloc (.cells #[.string da, .int .i64 qa, .int .i64 sa] 23)).alloc (.cells #[.string db, .int .i64 qb, .int .i64 sb] 23)).alloc (.cells #[.string dc, .int .i64 qc, .int .i64 sc] 23)).cell? ⟨w.heap.size, 1, none⟩ = some (.int .i64 qa) := by simp [go_sem]
  have k02 : (((w.alloc (.cells #[.string da, .int .i64 qa, .int .i64 sa] 23)).alloc (.cells #[.string db, .int .i64 qb, .int .i64 sb] 23)).alloc (.cells #[.string dc, .int .i64 qc, .int .i64 sc] 23)).cell? ⟨w.heap.size, 2, none⟩ = some (.int .i64 sa) := by simp [go_sem]
  have k10 : (((w.alloc (.cells #[.string da, .int .i64 qa, .int .i64 sa] 23)).alloc (.cells #[.string db, .int .i64 qb, .int .i64 sb] 23)).alloc (.cells #[.string dc, .int .i64 qc, .int .i64 sc] 23)).cell? ⟨w.heap.size + 1, 0, none⟩ = some (.string db) := by simp [go_sem]
  have k11 : (((w.alloc (.cells #[.string da, .int .i64 qa, .int .i64 sa] 23)).alloc (.cells #[.string db, .int .i64 qb, .int .i64 sb] 23)).alloc (.cells #[.string dc, .int .i64 qc, .int .i64 sc] 23)).cell? ⟨w.heap.size + 1, 1, none⟩ = some (.int .i64 qb) := by simp [go_sem]
  have k12 : (((w.alloc (.cells #[.string da, .int .i64 qa, .int .i64 sa] 23)).alloc (.cells #[.string db, .int .i64 qb, .int .i64 sb] 23)).alloc (.cells #[.string dc, .int .i64 qc, .int .i64 sc] 23)).cell? ⟨w.heap.size + 1, 2, none⟩ = some (.int .i64 sb) := by simp [go_sem]
  have k20 : (((w.alloc (.cells #[.string da, .int .i64 qa, .int .i64 sa] 23)).alloc (.cells #[.string db, .int .i64 qb, .int .i64 sb] 23)).alloc (.cells #[.string dc, .int .i64 qc, .int .i64 sc] 23)).cell? ⟨w.heap.size + 2, 0, none⟩ = some (.string dc) := by simp [go_sem]
  have k21 : (((w.alloc (.cells #[.string da, .int .i64 qa, .int .i64 sa] 23)).alloc (.cells #[.string db, .int .i64 qb, .int .i64 sb] 23)).alloc (.cells #[.string dc, .int .i64 qc, .int .i64 sc] 23)).cell? ⟨w.heap.size + 2, 1, none⟩ = some (.int .i64 qc) := by simp [go_sem]
  have k22 : (((w.alloc (.cells #[.string da, .int .i64 qa, .int .i64 sa] 23)).alloc (.cells #[.string db, .int .i64 qb, .int .i64 sb] 23)).alloc (.cells #[.string dc, .int .i64 qc, .int .i64 sc] 23)).cell? ⟨w.heap.size + 2, 2, none⟩ = some (.int .i64 sc) := by simp [go_sem]
  have hz0 : w.heap.size < (((w.alloc (.cells #[.string da, .int .i64 qa, .int .i64 sa] 23)).alloc (.cells #[.string db, .int .i64 qb, .int .i64 sb] 23)).alloc (.cells #[.string dc, .int .i64 qc, .int .i64 sc] 23)).heap.size := by simp <;> omega
  have hz1 : w.heap.size + 1 < (((w.alloc (.cells #[.string da, .int .i64 qa, .int .i64 sa] 23)).alloc (.cells #[.string db, .int .i64 qb, .int .i64 sb] 23)).alloc (.cells #[.string dc, .int .i64 qc, .int .i64 sc] 23)).heap.size := by simp <;> omega
  have hz2 : w.heap.size + 2 < (((w.alloc (.cells #[.string da, .int .i64 qa, .int .i64 sa] 23)).alloc (.cells #[.string db, .int .i64 qb, .int .i64 sb] 23)).alloc (.cells #[.string dc, .int .i64 qc, .int .i64 sc] 23)).heap.size := by simp <;> omega
  have HB : Hid (Below w.heap.size w (((w.alloc (.cells #[.string da, .int .i64 qa, .int .i64 sa] 23)).alloc (.cells #[.string db, .int .i64 qb, .int .i64 sb] 23)).alloc (.cells #[.string dc, .int .i64 qc, .int .i64 sc] 23))) := (((Below.refl _ _).alloc (Nat.le_refl _) _).alloc (by simp) _).alloc (by simp; omega) _
  generalize (((w.alloc (.cells #[.string da, .int .i64 qa, .int .i64 sa] 23)).alloc (.cells #[.string db, .int .i64 qb, .int .i64 sb] 23)).alloc (.cells #[.string dc, .int .i64 qc, .int .i64 sc] 23)) = W at *
  go_region_held3 (fun w' => w'.cell? ⟨w.heap.size, 0, none⟩ = some (.string da) ∧ w'.cell? ⟨w.heap.size, 1, none⟩ = some (.int .i64 qa) ∧ w'.cell? ⟨w.heap.size, 2, none⟩ = some (.int .i64 sa) ∧ w'.cell? ⟨w.heap.size + 1, 0, none⟩ = some (.string db) ∧ w'.cell? ⟨w.heap.size + 1, 1, none⟩ = some (.int .i64 qb) ∧ w'.cell? ⟨w.heap.size + 1, 2, none⟩ = some (.int .i64 sb) ∧ w'.cell? ⟨w.heap.size + 2, 0, none⟩ = some (.string dc) ∧ w'.cell? ⟨w.heap.size + 2, 1, none⟩ = some (.int .i64 qc) ∧ w'.cell? ⟨w.heap.size + 2, 2, none⟩ = some (.int .i64 sc)) (exact ⟨k00, k01, k02, k10, k11, k12, k20, k21, k22⟩)
    (first
      | (go_at_call 10
         refine (ver_raw _ _ _ _).mono ?_
         rintro e w1 ⟨rfl, hb⟩
         replace k00 := (hb.cell (p := ⟨w.heap.size, 0, none⟩) hz0).trans k00
         replace k01 := (hb.cell (p := ⟨w.heap.size, 1, none⟩) hz0).trans k01
         replace k02 := (hb.cell (p := ⟨w.heap.size, 2, none⟩) hz0).trans k02
         replace k10 := (hb.cell (p := ⟨w.heap.size + 1, 0, none⟩) hz1).trans k10
         replace k11 := (hb.cell (p := ⟨w.heap.size + 1, 1, none⟩) hz1).trans k11
         replace k12 := (hb.cell (p := ⟨w.heap.size + 1, 2, none⟩) hz1).trans k12
         replace k20 := (hb.cell (p := ⟨w.heap.size + 2, 0, none⟩) hz2).trans k20
         replace k21 := (hb.cell (p := ⟨w.heap.size + 2, 1, none⟩) hz2).trans k21
         replace k22 := (hb.cell (p := ⟨w.heap.size + 2, 2, none⟩) hz2).trans k22
         replace hz0 := Nat.lt_of_lt_of_le hz0 hb.size
         replace hz1 := Nat.lt_of_lt_of_le hz1 hb.size
         replace hz2 := Nat.lt_of_lt_of_le hz2 hb.size
         replace HB := Lib.hid (below_via HB.out hb HB.out.size ⟨rfl, rfl, rfl, rfl⟩)
         clear hb)
      | (go_at_call 9
         refine (newer_raw _ _ _ _ _ _ _).mono ?_
         rintro e w1 ⟨rfl, hb⟩
         replace k00 := (hb.cell (p := ⟨w.heap.size, 0, none⟩) hz0).trans k00
         replace k01 := (hb.cell (p := ⟨w.heap.size, 1, none⟩) hz0).trans k01
         replace k02 := (hb.cell (p := ⟨w.heap.size, 2, none⟩) hz0).trans k02
         replace k10 := (hb.cell (p := ⟨w.heap.size + 1, 0, none⟩) hz1).trans k10
         replace k11 := (hb.cell (p := ⟨w.heap.size + 1, 1, none⟩) hz1).trans k11
         replace k12 := (hb.cell (p := ⟨w.heap.size + 1, 2, none⟩) hz1).trans k12
         replace k20 := (hb.cell (p := ⟨w.heap.size + 2, 0, none⟩) hz2).trans k20
         replace k21 := (hb.cell (p := ⟨w.heap.size + 2, 1, none⟩) hz2).trans k21
         replace k22 := (hb.cell (p := ⟨w.heap.size + 2, 2, none⟩) hz2).trans k22
         replace hz0 := Nat.lt_of_lt_of_le hz0 hb.size
         replace hz1 := Nat.lt_of_lt_of_le hz1 hb.size
         replace hz2 := Nat.lt_of_lt_of_le hz2 hb.size
         replace HB := Lib.hid (below_via HB.out hb HB.out.size ⟨rfl, rfl, rfl, rfl⟩)
         clear hb))
  have HN1 : Hid (newerF ⟨da, qa, sa⟩ ⟨db, qb, sb⟩ = true → newerF ⟨db, qb, sb⟩ ⟨da, qa, sa⟩ = false) := newer_not
  have HN2 : Hid (newerF ⟨da, qa, sa⟩ ⟨db, qb, sb⟩ = false → newerF ⟨db, qb, sb⟩ ⟨da, qa, sa⟩ = false → sa = sb ∧ da = db) := fun h1 h2 => newer_same h1 h2
  have HN3 : Hid (newerF ⟨da, qa, sa⟩ ⟨db, qb, sb⟩ = true → newerF ⟨db, qb, sb⟩ ⟨dc, qc, sc⟩ = true → newerF ⟨da, qa, sa⟩ ⟨dc, qc, sc⟩ = true) := newer_trans
  have HRN : Hid (∀ w, Calls Try.prog 12 #[.agg #[.string da, .int .i64 qa, .int .i64 sa], .agg #[.string db, .int .i64 qb, .int .i64 sb]] w fun e w' => e = .returned (.bool (newerF ⟨da, qa, sa⟩ ⟨db, qb, sb⟩)) ∧ Below w.heap.size w w') := rnewer_raw da qa sa db qb sb HA.out
  generalize newerF ⟨da, qa, sa⟩ ⟨db, qb, sb⟩ = x at *
  generalize newerF ⟨db, qb, sb⟩ ⟨da, qa, sa⟩ = y at *
  go_wp2_with fail
  refine (told_any _).mono ?_
  rintro e w1 ⟨rfl, hb⟩
  replace k00 := (hb.cell (p := ⟨w.heap.size, 0, none⟩) hz0).trans k00
  replace k01 := (hb.cell (p := ⟨w.heap.size, 1, none⟩) hz0).trans k01
  replace k02 := (hb.cell (p := ⟨w.heap.size, 2, none⟩) hz0).trans k02
  replace k10 := (hb.cell (p := ⟨w.heap.size + 1, 0, none⟩) hz1).trans k10
  replace k11 := (hb.cell (p := ⟨w.heap.size + 1, 1, none⟩) hz1).trans k11
  replace k12 := (hb.cell (p := ⟨w.heap.size + 1, 2, none⟩) hz1).trans k12
  replace k20 := (hb.cell (p := ⟨w.heap.size + 2, 0, none⟩) hz2).trans k20
  replace k21 := (hb.cell (p := ⟨w.heap.size + 2, 1, none⟩) hz2).trans k21
  replace k22 := (hb.cell (p := ⟨w.heap.size + 2, 2, none⟩) hz2).trans k22
  replace hz0 := Nat.lt_of_lt_of_le hz0 hb.size
  replace hz1 := Nat.lt_of_lt_of_le hz1 hb.size
  replace hz2 := Nat.lt_of_lt_of_le hz2 hb.size
  replace HB := Lib.hid (below_via HB.out hb HB.out.size ⟨rfl, rfl, rfl, rfl⟩)
  clear hb
  go_wp2_with fail
  refine (HRN.out _).mono ?_
  rintro e w1 ⟨rfl, hb⟩
  replace k00 := (hb.cell (p := ⟨w.heap.size, 0, none⟩) hz0).trans k00
  replace k01 := (hb.cell (p := ⟨w.heap.size, 1, none⟩) hz0).trans k01
  replace k02 := (hb.cell (p := ⟨w.heap.size, 2, none⟩) hz0).trans k02
  replace k10 := (hb.cell (p := ⟨w.heap.size + 1, 0, none⟩) hz1).trans k10
  replace k11 := (hb.cell (p := ⟨w.heap.size + 1, 1, none⟩) hz1).trans k11
  replace k12 := (hb.cell (p := ⟨w.heap.size + 1, 2, none⟩) hz1).trans k12
  replace k20 := (hb.cell (p := ⟨w.heap.size + 2, 0, none⟩) hz2).trans k20
  replace k21 := (hb.cell (p := ⟨w.heap.size + 2, 1, none⟩) hz2).trans k21
  replace k22 := (hb.cell (p := ⟨w.heap.size + 2, 2, none⟩) hz2).trans k22
  replace hz0 := Nat.lt_of_lt_of_le hz0 hb.size
  replace hz1 := Nat.lt_of_lt_of_le hz1 hb.size
  replace hz2 := Nat.lt_of_lt_of_le hz2 hb.size
  replace HB := Lib.hid (below_via HB.out hb HB.out.size ⟨rfl, rfl, rfl, rfl⟩)
  clear hb
  clear HRN
  have HBd : Hid (∀ n, Below w.heap.size w (w1.drewN n)) := fun n => HB.out.trans ⟨rfl, rfl, rfl, Nat.le_refl _, fun _ _ => rfl⟩
  cases x
  · cases y
    · obtain ⟨hs, hd⟩ := HN2.out (by simp) (by simp)
      subst hs hd
      clear HN1 HN2 HN3
      go_wp2
      go_quiet (fail)
      go_wp2
      go_ret
      exact ⟨rfl, HBd.out _⟩
    · clear HN1 HN2 HN3
      go_wp2
      go_quiet (fail)
      go_wp2
      go_ret
      exact ⟨rfl, HBd.out _⟩
  · have hy := HN1.out (by simp)
    subst hy
    cases hz : newerF ⟨db, qb, sb⟩ ⟨dc, qc, sc⟩
    · clear HN1 HN2 HN3
      go_wp2
      refine wp_region_held_drew (S := fun w' => w'.cell? ⟨w.heap.size, 0, none⟩ = some (.string da) ∧ w'.cell? ⟨w.heap.size, 1, none⟩ = some (.int .i64 qa) ∧ w'.cell? ⟨w.heap.size, 2, none⟩ = some (.int .i64 sa) ∧ w'.cell? ⟨w.heap.size + 1, 0, none⟩ = some (.string db) ∧ w'.cell? ⟨w.heap.size + 1, 1, none⟩ = some (.int .i64 qb) ∧ w'.cell? ⟨w.heap.size + 1, 2, none⟩ = some (.int .i64 sb) ∧ w'.cell? ⟨w.heap.size + 2, 0, none⟩ = some (.string dc) ∧ w'.cell? ⟨w.heap.size + 2, 1, none⟩ = some (.int .i64 qc) ∧ w'.cell? ⟨w.heap.size + 2, 2, none⟩ = some (.int .i64 sc)) (by kernel_rfl) ⟨k00, k01, k02, k10, k11, k12, k20, k21, k22⟩ (fun hHeld => ?_)
      refine wpAnyH_take (i := 0) (oi := { dst := some 56, op := Go.Op.move (Go.Operand.tmp 7), type := 4, pos := "law.go:47", after := #[], guard := none }) (v := ?_) rfl (by kernel_rfl) (by kernel_rfl) (by kernel_rfl) (fun _ _ _ h => h) (Or.inl ⟨rfl, ?_⟩) (by assumption) ?_
      rotate_left
      · intro wz hSw; (try dsimp only at hSw); go_simp; try (with_reducible rfl)
      try simp only [Act.put, List.setIfInBounds_toArray, List.set_cons_zero, List.set_cons_succ]
      refine wpAnyH_take (i := 1) (oi := { dst := some 57, op := Go.Op.move (Go.Operand.tmp 56), type := 4, pos := "law.go:47", after := #[{ on := 0, ground := Go.Ground.data }], guard := none }) (v := ?_) rfl (by kernel_rfl) (by kernel_rfl) (by kernel_rfl) (fun _ _ _ h => h) (Or.inl ⟨rfl, ?_⟩) (by assumption) ?_
      rotate_left
      · intro wz hSw; (try dsimp only at hSw); go_simp; try (with_reducible rfl)
      try simp only [Act.put, List.setIfInBounds_toArray, List.set_cons_zero, List.set_cons_succ]
      refine wpAnyH_take (i := 2) (oi := { dst := some 58, op := Go.Op.load 23 (Go.Operand.tmp 4), type := 23, pos := "law.go:47", after := #[{ on := 1, ground := Go.Ground.guard }], guard := some (1, true) }) (v := ?_) rfl (by kernel_rfl) (by kernel_rfl) (by kernel_rfl) (fun _ _ _ h => h) (Or.inl ⟨rfl, ?_⟩) (by assumption) ?_
      rotate_left
      · intro wz hSw; (try dsimp only at hSw); go_simp; try (with_reducible rfl)
      try simp only [Act.put, List.setIfInBounds_toArray, List.set_cons_zero, List.set_cons_succ]
      refine wpAnyH_take (i := 4) (oi := { dst := some 60, op := Go.Op.load 23 (Go.Operand.tmp 5), type := 23, pos := "law.go:47", after := #[{ on := 1, ground := Go.Ground.guard }], guard := some (1, true) }) (v := ?_) rfl (by kernel_rfl) (by kernel_rfl) (by kernel_rfl) (fun _ _ _ h => h) (Or.inl ⟨rfl, ?_⟩) (by assumption) ?_
      rotate_left
      · intro wz hSw; (try dsimp only at hSw); go_simp; try (with_reducible rfl)
      try simp only [Act.put, List.setIfInBounds_toArray, List.set_cons_zero, List.set_cons_succ]
      refine wpAnyH_ready (rs := [3]) (by kernel_rfl) (by simp) ?_
      refine AllReadyH.cons (o := { dst := some 59, op := Go.Op.call { callee := Go.Callee.value (Go.Operand.func 10), args := #[Go.Operand.tmp 58], argTypes := #[23] }, type := 27, pos := "law.go:47", after := #[{ on := 2, ground := Go.Ground.data }, { on := 1, ground := Go.Ground.chain }, { on := 1, ground := Go.Ground.guard }], guard := some (1, true) }) rfl (fun K hK => ?_) AllReadyH.nil
      go_simp
      go_at_call 10
      refine (ver_raw _ _ _ _).mono ?_
      rintro e w1 ⟨rfl, hb⟩
      replace k00 := (hb.cell (p := ⟨w.heap.size, 0, none⟩) hz0).trans k00
      replace k01 := (hb.cell (p := ⟨w.heap.size, 1, none⟩) hz0).trans k01
      replace k02 := (hb.cell (p := ⟨w.heap.size, 2, none⟩) hz0).trans k02
      replace k10 := (hb.cell (p := ⟨w.heap.size + 1, 0, none⟩) hz1).trans k10
      replace k11 := (hb.cell (p := ⟨w.heap.size + 1, 1, none⟩) hz1).trans k11
      replace k12 := (hb.cell (p := ⟨w.heap.size + 1, 2, none⟩) hz1).trans k12
      replace k20 := (hb.cell (p := ⟨w.heap.size + 2, 0, none⟩) hz2).trans k20
      replace k21 := (hb.cell (p := ⟨w.heap.size + 2, 1, none⟩) hz2).trans k21
      replace k22 := (hb.cell (p := ⟨w.heap.size + 2, 2, none⟩) hz2).trans k22
      replace hz0 := Nat.lt_of_lt_of_le hz0 hb.size
      replace hz1 := Nat.lt_of_lt_of_le hz1 hb.size
      replace hz2 := Nat.lt_of_lt_of_le hz2 hb.size
      replace HB := Lib.hid (below_via HB.out hb HB.out.size ⟨rfl, rfl, rfl, rfl⟩)
      clear hb
      refine hK.out _ _ ⟨k00, k01, k02, k10, k11, k12, k20, k21, k22⟩ (fun hHeld => ?_)
      clear hK K
      try simp only [Act.put, List.setIfInBounds_toArray, List.set_cons_zero, List.set_cons_succ]
      refine wpAnyH_ready (rs := [5]) (by kernel_rfl) (by simp) ?_
      refine AllReadyH.cons (o := { dst := some 61, op := Go.Op.call { callee := Go.Callee.value (Go.Operand.func 10), args := #[Go.Operand.tmp 60], argTypes := #[23] }, type := 27, pos := "law.go:47", after := #[{ on := 4, ground := Go.Ground.data }, { on := 3, ground := Go.Ground.chain }, { on := 1, ground := Go.Ground.guard }], guard := some (1, true) }) rfl (fun K hK => ?_) AllReadyH.nil
      go_simp
      go_at_call 10
      refine (ver_raw _ _ _ _).mono ?_
      rintro e w1 ⟨rfl, hb⟩
      replace k00 := (hb.cell (p := ⟨w.heap.size, 0, none⟩) hz0).trans k00
      replace k01 := (hb.cell (p := ⟨w.heap.size, 1, none⟩) hz0).trans k01
      replace k02 := (hb.cell (p := ⟨w.heap.size, 2, none⟩) hz0).trans k02
      replace k10 := (hb.cell (p := ⟨w.heap.size + 1, 0, none⟩) hz1).trans k10
      replace k11 := (hb.cell (p := ⟨w.heap.size + 1, 1, none⟩) hz1).trans k11
      replace k12 := (hb.cell (p := ⟨w.heap.size + 1, 2, none⟩) hz1).trans k12
      replace k20 := (hb.cell (p := ⟨w.heap.size + 2, 0, none⟩) hz2).trans k20
      replace k21 := (hb.cell (p := ⟨w.heap.size + 2, 1, none⟩) hz2).trans k21
      replace k22 := (hb.cell (p := ⟨w.heap.size + 2, 2, none⟩) hz2).trans k22
      replace hz0 := Nat.lt_of_lt_of_le hz0 hb.size
      replace hz1 := Nat.lt_of_lt_of_le hz1 hb.size
      replace hz2 := Nat.lt_of_lt_of_le hz2 hb.size
      replace HB := Lib.hid (below_via HB.out hb HB.out.size ⟨rfl, rfl, rfl, rfl⟩)
      clear hb
      refine hK.out _ _ ⟨k00, k01, k02, k10, k11, k12, k20, k21, k22⟩ (fun hHeld => ?_)
      clear hK K
      try simp only [Act.put, List.setIfInBounds_toArray, List.set_cons_zero, List.set_cons_succ]
      refine wpAnyH_ready (rs := [6]) (by kernel_rfl) (by simp) ?_
      refine AllReadyH.cons (o := { dst := some 62, op := Go.Op.call { callee := Go.Callee.value (Go.Operand.func 9), args := #[Go.Operand.tmp 59, Go.Operand.tmp 61], argTypes := #[27, 27] }, type := 4, pos := "law.go:47", after := #[{ on := 3, ground := Go.Ground.data }, { on := 5, ground := Go.Ground.data }, { on := 5, ground := Go.Ground.chain }, { on := 1, ground := Go.Ground.guard }], guard := some (1, true) }) rfl (fun K hK => ?_) AllReadyH.nil
      go_simp
      go_at_call 9
      refine (newer_raw _ _ _ _ _ _ _).mono ?_
      rw [hz]
      rintro e w1 ⟨rfl, hb⟩
      replace k00 := (hb.cell (p := ⟨w.heap.size, 0, none⟩) hz0).trans k00
      replace k01 := (hb.cell (p := ⟨w.heap.size, 1, none⟩) hz0).trans k01
      replace k02 := (hb.cell (p := ⟨w.heap.size, 2, none⟩) hz0).trans k02
      replace k10 := (hb.cell (p := ⟨w.heap.size + 1, 0, none⟩) hz1).trans k10
      replace k11 := (hb.cell (p := ⟨w.heap.size + 1, 1, none⟩) hz1).trans k11
      replace k12 := (hb.cell (p := ⟨w.heap.size + 1, 2, none⟩) hz1).trans k12
      replace k20 := (hb.cell (p := ⟨w.heap.size + 2, 0, none⟩) hz2).trans k20
      replace k21 := (hb.cell (p := ⟨w.heap.size + 2, 1, none⟩) hz2).trans k21
      replace k22 := (hb.cell (p := ⟨w.heap.size + 2, 2, none⟩) hz2).trans k22
      replace hz0 := Nat.lt_of_lt_of_le hz0 hb.size
      replace hz1 := Nat.lt_of_lt_of_le hz1 hb.size
      replace hz2 := Nat.lt_of_lt_of_le hz2 hb.size
      replace HB := Lib.hid (below_via HB.out hb HB.out.size ⟨rfl, rfl, rfl, rfl⟩)
      clear hb
      refine hK.out _ _ ⟨k00, k01, k02, k10, k11, k12, k20, k21, k22⟩ (fun hHeld => ?_)
      clear hK K
      try simp only [Act.put, List.setIfInBounds_toArray, List.set_cons_zero, List.set_cons_succ]
      refine wpAnyH_take (i := 7) (oi := { dst := some 63, op := Go.Op.pick (Go.Operand.tmp 57) (Go.Operand.tmp 62) (Go.Operand.const (Go.Value.bool false)), type := 4, pos := "law.go:47", after := #[{ on := 1, ground := Go.Ground.data }, { on := 6, ground := Go.Ground.data }], guard := none }) (v := ?_) rfl (by kernel_rfl) (by kernel_rfl) (by kernel_rfl) (fun _ _ _ h => h) (Or.inl ⟨rfl, ?_⟩) (by assumption) ?_
      rotate_left
      · intro wz hSw; (try dsimp only at hSw); go_simp; try (with_reducible rfl)
      try simp only [Act.put, List.setIfInBounds_toArray, List.set_cons_zero, List.set_cons_succ]
      refine wpAnyH_take (i := 8) (oi := { dst := some 64, op := Go.Op.unOp Go.UnOp.not 4 (Go.Operand.tmp 63), type := 4, pos := "law.go:47", after := #[{ on := 7, ground := Go.Ground.data }], guard := none }) (v := ?_) rfl (by kernel_rfl) (by kernel_rfl) (by kernel_rfl) (fun _ _ _ h => h) (Or.inl ⟨rfl, ?_⟩) (by assumption) ?_
      rotate_left
      · intro wz hSw; (try dsimp only at hSw); go_simp; try (with_reducible rfl)
      try simp only [Act.put, List.setIfInBounds_toArray, List.set_cons_zero, List.set_cons_succ]
      refine wpAnyH_take (i := 9) (oi := { dst := some 65, op := Go.Op.move (Go.Operand.tmp 64), type := 4, pos := "law.go:47", after := #[{ on := 8, ground := Go.Ground.data }, { on := 6, ground := Go.Ground.chain }], guard := none }) (v := ?_) rfl (by kernel_rfl) (by kernel_rfl) (by kernel_rfl) (fun _ _ _ h => h) (Or.inl ⟨rfl, ?_⟩) (by assumption) ?_
      rotate_left
      · intro wz hSw; (try dsimp only at hSw); go_simp; try (with_reducible rfl)
      try simp only [Act.put, List.setIfInBounds_toArray, List.set_cons_zero, List.set_cons_succ]
      refine wpAnyH_take (i := 10) (oi := { dst := some 66, op := Go.Op.load 23 (Go.Operand.tmp 3), type := 23, pos := "law.go:47", after := #[{ on := 9, ground := Go.Ground.guard }], guard := some (9, false) }) (v := undef) rfl (by kernel_rfl) (by kernel_rfl) (by kernel_rfl) (fun _ _ _ h => h) (Or.inr ⟨rfl, rfl⟩) (by assumption) ?_
      try simp only [Act.put, List.setIfInBounds_toArray, List.set_cons_zero, List.set_cons_succ]
      refine wpAnyH_take (i := 12) (oi := { dst := some 68, op := Go.Op.load 23 (Go.Operand.tmp 5), type := 23, pos := "law.go:47", after := #[{ on := 9, ground := Go.Ground.guard }], guard := some (9, false) }) (v := undef) rfl (by kernel_rfl) (by kernel_rfl) (by kernel_rfl) (fun _ _ _ h => h) (Or.inr ⟨rfl, rfl⟩) (by assumption) ?_
      try simp only [Act.put, List.setIfInBounds_toArray, List.set_cons_zero, List.set_cons_succ]
      refine wpAnyH_take (i := 11) (oi := { dst := some 67, op := Go.Op.call { callee := Go.Callee.value (Go.Operand.func 10), args := #[Go.Operand.tmp 66], argTypes := #[23] }, type := 27, pos := "law.go:47", after := #[{ on := 10, ground := Go.Ground.data }, { on := 9, ground := Go.Ground.chain }, { on := 9, ground := Go.Ground.guard }], guard := some (9, false) }) (v := undef) rfl (by kernel_rfl) (by kernel_rfl) (by kernel_rfl) (fun _ _ _ h => h) (Or.inr ⟨rfl, rfl⟩) (by assumption) ?_
      try simp only [Act.put, List.setIfInBounds_toArray, List.set_cons_zero, List.set_cons_succ]
      refine wpAnyH_take (i := 13) (oi := { dst := some 69, op := Go.Op.call { callee := Go.Callee.value (Go.Operand.func 10), args := #[Go.Operand.tmp 68], argTypes := #[23] }, type := 27, pos := "law.go:47", after := #[{ on := 12, ground := Go.Ground.data }, { on := 11, ground := Go.Ground.chain }, { on := 9, ground := Go.Ground.guard }], guard := some (9, false) }) (v := undef) rfl (by kernel_rfl) (by kernel_rfl) (by kernel_rfl) (fun _ _ _ h => h) (Or.inr ⟨rfl, rfl⟩) (by assumption) ?_
      try simp only [Act.put, List.setIfInBounds_toArray, List.set_cons_zero, List.set_cons_succ]
      refine wpAnyH_take (i := 14) (oi := { dst := some 70, op := Go.Op.call { callee := Go.Callee.value (Go.Operand.func 9), args := #[Go.Operand.tmp 67, Go.Operand.tmp 69], argTypes := #[27, 27] }, type := 4, pos := "law.go:47", after := #[{ on := 11, ground := Go.Ground.data }, { on := 13, ground := Go.Ground.data }, { on := 13, ground := Go.Ground.chain }, { on := 9, ground := Go.Ground.guard }], guard := some (9, false) }) (v := undef) rfl (by kernel_rfl) (by kernel_rfl) (by kernel_rfl) (fun _ _ _ h => h) (Or.inr ⟨rfl, rfl⟩) (by assumption) ?_
      try simp only [Act.put, List.setIfInBounds_toArray, List.set_cons_zero, List.set_cons_succ]
      refine wpAnyH_take (i := 15) (oi := { dst := some 71, op := Go.Op.pick (Go.Operand.tmp 65) (Go.Operand.const (Go.Value.bool true)) (Go.Operand.tmp 70), type := 4, pos := "law.go:47", after := #[{ on := 9, ground := Go.Ground.data }, { on := 14, ground := Go.Ground.data }], guard := none }) (v := ?_) rfl (by kernel_rfl) (by kernel_rfl) (by kernel_rfl) (fun _ _ _ h => h) (Or.inl ⟨rfl, ?_⟩) (by assumption) ?_
      rotate_left
      · intro wz hSw; (try dsimp only at hSw); go_simp; try (with_reducible rfl)
      try simp only [Act.put, List.setIfInBounds_toArray, List.set_cons_zero, List.set_cons_succ]
      refine wpAnyH_take (i := 16) (oi := { dst := some 6, op := Go.Op.assign (Go.Operand.tmp 71), type := 4, pos := "law.go:47", after := #[{ on := 15, ground := Go.Ground.data }, { on := 14, ground := Go.Ground.chain }, { on := 0, ground := Go.Ground.phase }, { on := 1, ground := Go.Ground.phase }, { on := 2, ground := Go.Ground.phase }, { on := 3, ground := Go.Ground.phase }, { on := 4, ground := Go.Ground.phase }, { on := 5, ground := Go.Ground.phase }, { on := 6, ground := Go.Ground.phase }, { on := 7, ground := Go.Ground.phase }, { on := 8, ground := Go.Ground.phase }, { on := 9, ground := Go.Ground.phase }, { on := 10, ground := Go.Ground.phase }, { on := 11, ground := Go.Ground.phase }, { on := 12, ground := Go.Ground.phase }, { on := 13, ground := Go.Ground.phase }, { on := 14, ground := Go.Ground.phase }, { on := 15, ground := Go.Ground.phase }], guard := none }) (v := ?_) rfl (by kernel_rfl) (by kernel_rfl) (by kernel_rfl) (fun _ _ _ h => h) (Or.inl ⟨rfl, ?_⟩) (by assumption) ?_
      rotate_left
      · intro wz hSw; (try dsimp only at hSw); go_simp; try (with_reducible rfl)
      try simp only [Act.put, List.setIfInBounds_toArray, List.set_cons_zero, List.set_cons_succ]
      refine wpAnyH_done (by kernel_rfl) ?_ _
      go_wp2
      go_ret
      exact ⟨rfl, by first | exact HB.out | exact HB.out.trans ⟨rfl, rfl, rfl, Nat.le_refl _, fun _ _ => rfl⟩⟩
    · have hac := HN3.out (by simp) hz
      clear HN1 HN2 HN3
      go_wp2
      go_region_held3 (fun w' => w'.cell? ⟨w.heap.size, 0, none⟩ = some (.string da) ∧ w'.cell? ⟨w.heap.size, 1, none⟩ = some (.int .i64 qa) ∧ w'.cell? ⟨w.heap.size, 2, none⟩ = some (.int .i64 sa) ∧ w'.cell? ⟨w.heap.size + 1, 0, none⟩ = some (.string db) ∧ w'.cell? ⟨w.heap.size + 1, 1, none⟩ = some (.int .i64 qb) ∧ w'.cell? ⟨w.heap.size + 1, 2, none⟩ = some (.int .i64 sb) ∧ w'.cell? ⟨w.heap.size + 2, 0, none⟩ = some (.string dc) ∧ w'.cell? ⟨w.heap.size + 2, 1, none⟩ = some (.int .i64 qc) ∧ w'.cell? ⟨w.heap.size + 2, 2, none⟩ = some (.int .i64 sc)) (exact ⟨k00, k01, k02, k10, k11, k12, k20, k21, k22⟩)
        (first
          | (go_at_call 10
             refine (ver_raw _ _ _ _).mono ?_
             rintro e w1 ⟨rfl, hb⟩
             replace k00 := (hb.cell (p := ⟨w.heap.size, 0, none⟩) hz0).trans k00
             replace k01 := (hb.cell (p := ⟨w.heap.size, 1, none⟩) hz0).trans k01
             replace k02 := (hb.cell (p := ⟨w.heap.size, 2, none⟩) hz0).trans k02
             replace k10 := (hb.cell (p := ⟨w.heap.size + 1, 0, none⟩) hz1).trans k10
             replace k11 := (hb.cell (p := ⟨w.heap.size + 1, 1, none⟩) hz1).trans k11
             replace k12 := (hb.cell (p := ⟨w.heap.size + 1, 2, none⟩) hz1).trans k12
             replace k20 := (hb.cell (p := ⟨w.heap.size + 2, 0, none⟩) hz2).trans k20
             replace k21 := (hb.cell (p := ⟨w.heap.size + 2, 1, none⟩) hz2).trans k21
             replace k22 := (hb.cell (p := ⟨w.heap.size + 2, 2, none⟩) hz2).trans k22
             replace hz0 := Nat.lt_of_lt_of_le hz0 hb.size
             replace hz1 := Nat.lt_of_lt_of_le hz1 hb.size
             replace hz2 := Nat.lt_of_lt_of_le hz2 hb.size
             replace HB := Lib.hid (below_via HB.out hb HB.out.size ⟨rfl, rfl, rfl, rfl⟩)
             clear hb)
          | (go_at_call 9
             refine (newer_raw _ _ _ _ _ _ _).mono ?_
             rintro e w1 ⟨rfl, hb⟩
             replace k00 := (hb.cell (p := ⟨w.heap.size, 0, none⟩) hz0).trans k00
             replace k01 := (hb.cell (p := ⟨w.heap.size, 1, none⟩) hz0).trans k01
             replace k02 := (hb.cell (p := ⟨w.heap.size, 2, none⟩) hz0).trans k02
             replace k10 := (hb.cell (p := ⟨w.heap.size + 1, 0, none⟩) hz1).trans k10
             replace k11 := (hb.cell (p := ⟨w.heap.size + 1, 1, none⟩) hz1).trans k11
             replace k12 := (hb.cell (p := ⟨w.heap.size + 1, 2, none⟩) hz1).trans k12
             replace k20 := (hb.cell (p := ⟨w.heap.size + 2, 0, none⟩) hz2).trans k20
             replace k21 := (hb.cell (p := ⟨w.heap.size + 2, 1, none⟩) hz2).trans k21
             replace k22 := (hb.cell (p := ⟨w.heap.size + 2, 2, none⟩) hz2).trans k22
             replace hz0 := Nat.lt_of_lt_of_le hz0 hb.size
             replace hz1 := Nat.lt_of_lt_of_le hz1 hb.size
             replace hz2 := Nat.lt_of_lt_of_le hz2 hb.size
             replace HB := Lib.hid (below_via HB.out hb HB.out.size ⟨rfl, rfl, rfl, rfl⟩)
             clear hb))
      all_goals
        go_wp2
        go_ret
        exact ⟨rfl, by first | exact HB.out | exact HB.out.trans ⟨rfl, rfl, rfl, Nat.le_refl _, fun _ _ => rfl⟩⟩
end Go.Proofs.Ytophhjknbanafaa
