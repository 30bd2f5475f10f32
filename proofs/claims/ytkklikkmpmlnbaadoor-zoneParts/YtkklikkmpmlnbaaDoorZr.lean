/- The law ZoneParts: words of floats between -1000 and 1000, and what their whole parts are; no place outside of any zone. -/
import Derived.Test.YtkklikkmpmlnbaaDoorZt
import Derived.Test.YtkklikkmpmlnbaaDoorZn
namespace Go.Proofs.YtkklikkmpmlnbaaDoor
open Go.RowKit
section Words
open Ieee
/-- A number that is read has a fraction, or is great. -/
theorem read_form {x : Nat} {s : Bool} {m : Nat} {e : Int} (h : double.read x = .number s m e) : e < 0 ∨ (2 ^ 52 ≤ m ∧ 0 ≤ e) := by
  by_cases he : e < 0
  · exact .inl he
  · refine .inr ⟨?_, by omega⟩
    unfold Format.read at h
    simp only at h
    split at h
    · injection h with h1 h2 h3
      have e1 : double.leastPlace = -1074 := by decide
      omega
    · split at h
      · injection h with h1 h2 h3
        have e3 : double.binade = 2 ^ 52 := rfl
        omega
      · split at h <;> cases h
theorem sgn_mul (s : Bool) (m k : Nat) : signed s m k = signed s m 0 * ((2 ^ k : Nat) : Int) := by
  unfold signed
  rw [shl_eq, shl_eq, Nat.pow_zero, Nat.mul_one]
  cases s
  · simp
  · simp [Int.neg_mul]
theorem order_at {s : Bool} {m D : Nat} {d : Datum} {n : Int} (hd : IsNum d n) : (Datum.number s m (-(D : Int))).order d = some (compare (signed s m 0) (n * ((2 ^ D : Nat) : Int))) := by
  obtain ⟨t, j, rfl, ht⟩ := hd
  unfold Datum.order
  simp only
  congr 1
  rw [signed_num ht, sgn_mul s m]
  have e : (-(D : Int) - min (-(D : Int)) (-(j : Int))).toNat = max D j - D := by omega
  have e' : j + (-(j : Int) - min (-(D : Int)) (-(j : Int))).toNat = D + (max D j - D) := by omega
  rw [e, e', Nat.pow_add, Int.natCast_mul, ← Int.mul_assoc]
  exact cmp_mul _ _ _
theorem order_flip {x y : Nat} : (FloatKind.f64.format.order x y == some .gt) = (FloatKind.f64.format.order y x == some .lt) ∧ (FloatKind.f64.format.order x y == some .eq) = (FloatKind.f64.format.order y x == some .eq) := by
  have e1 : FloatKind.f64.format.order x y = (Ieee.double.read x).order (Ieee.double.read y) := rfl
  have e2 : FloatKind.f64.format.order y x = (Ieee.double.read y).order (Ieee.double.read x) := rfl
  rw [e1, e2]
  cases Ieee.double.read x with
  | nan a b => cases Ieee.double.read y <;> exact ⟨rfl, rfl⟩
  | infinity a =>
    cases Ieee.double.read y with
    | nan b c => exact ⟨rfl, rfl⟩
    | infinity b => cases a <;> cases b <;> exact ⟨rfl, rfl⟩
    | number b c d => cases a <;> exact ⟨rfl, rfl⟩
  | number a b c =>
    cases Ieee.double.read y with
    | nan d e => exact ⟨rfl, rfl⟩
    | infinity d => cases d <;> exact ⟨rfl, rfl⟩
    | number d e f =>
      unfold Ieee.Datum.order
      simp only
      rw [show min f c = min c f by omega]
      generalize Ieee.signed a b _ = u
      generalize Ieee.signed d e _ = v
      rcases Int.lt_trichotomy u v with h | h | h
      · rw [Int.compare_eq_lt.mpr h, Int.compare_eq_gt.mpr h]; exact ⟨rfl, rfl⟩
      · subst h; rw [Int.compare_eq_eq.mpr rfl]; exact ⟨rfl, rfl⟩
      · rw [Int.compare_eq_gt.mpr h, Int.compare_eq_lt.mpr h]; exact ⟨rfl, rfl⟩
theorem cmp_le {a b : Int} : (some (compare a b) == some Ordering.lt || some (compare a b) == some Ordering.eq) = decide (a ≤ b) := by
  rcases Int.lt_trichotomy a b with h | h | h
  · rw [Int.compare_eq_lt.mpr h]; simp; omega
  · subst h; simp
  · rw [Int.compare_eq_gt.mpr h]; simp; omega
theorem cmp_ge {a b : Int} : (some (compare a b) == some Ordering.gt || some (compare a b) == some Ordering.eq) = decide (b ≤ a) := by
  rcases Int.lt_trichotomy a b with h | h | h
  · rw [Int.compare_eq_lt.mpr h]; simp; omega
  · subst h; simp
  · rw [Int.compare_eq_gt.mpr h]; simp; omega
theorem cmp_eq {a b : Int} : (some (compare a b) == some Ordering.eq) = decide (a = b) := by
  rcases Int.lt_trichotomy a b with h | h | h
  · rw [Int.compare_eq_lt.mpr h]; simp; omega
  · subst h; simp
  · rw [Int.compare_eq_gt.mpr h]; simp; omega
/-- A word between -1000 and 1000: what it stands for, times a power of two, is a whole number. -/
theorem in_form {x : Nat} (h1 : leqB 13875379345695965184 x = true) (h2 : leqB x 4652007308841189376 = true) :
    ∃ (s : Bool) (m D : Nat), double.read x = .number s m (-(D : Int)) ∧ m ≤ 1000 * 2 ^ D := by
  obtain ⟨s, m, e, hr⟩ := isN_of (num_isN num_lo) (num_isN num_hi) h1 h2
  have hs : Small 1000 := by unfold Small; decide
  have hs' : Small (-1000) := by unfold Small; decide
  rcases read_form hr with he | ⟨hm, he⟩
  · refine ⟨s, m, (-e).toNat, ?_, ?_⟩
    · rw [hr]; congr 1; omega
    · have hr' : double.read x = .number s m (-((-e).toNat : Int)) := by rw [hr]; congr 1; omega
      generalize (-e).toNat = D at *
      unfold leqB at h1 h2
      rw [← order_flip.1, ← order_flip.2] at h1
      have o1 : FloatKind.f64.format.order x 13875379345695965184 = some (compare (signed s m 0) (-1000 * ((2 ^ D : Nat) : Int))) := by
        show (double.read x).order (double.read _) = _
        rw [hr']; exact order_at num_lo
      have o2 : FloatKind.f64.format.order x 4652007308841189376 = some (compare (signed s m 0) (1000 * ((2 ^ D : Nat) : Int))) := by
        show (double.read x).order (double.read _) = _
        rw [hr']; exact order_at num_hi
      rw [o1, cmp_ge] at h1
      rw [o2, cmp_le] at h2
      have h1 := of_decide_eq_true h1
      have h2 := of_decide_eq_true h2
      unfold signed at h1 h2
      rw [shl_eq, Nat.pow_zero, Nat.mul_one] at h1 h2
      generalize 2 ^ D = E at *
      cases s <;> simp at h1 h2 <;> omega
  · exfalso
    unfold leqB at h1 h2
    rw [(order_great hr hm he num_lo hs').2] at h1
    rw [(order_great hr hm he num_hi hs).1] at h2
    cases s <;> simp at h1 h2
theorem cut_zero_eq (s : Bool) (m d : Nat) : Toward.zero.cut s m d = m / 2 ^ d := by
  unfold Toward.cut
  simp only [Bool.toNat_false, Nat.add_zero]
  rw [Nat.shiftLeft_eq, Nat.one_mul]
  rcases Nat.le_total d (m.log2 + 2) with h | h
  · rw [Nat.min_eq_left h]
  · rw [Nat.min_eq_right h]
    have h1 := Nat.lt_log2_self (n := m)
    have h2 : 2 ^ (m.log2 + 1) ≤ 2 ^ (m.log2 + 2) := Nat.pow_le_pow_right (by omega) (by omega)
    have h3 : 2 ^ (m.log2 + 2) ≤ 2 ^ d := Nat.pow_le_pow_right (by omega) h
    rw [Nat.div_eq_of_lt (by omega), Nat.div_eq_of_lt (by omega)]
/-- What is left of such a word when it is cut. -/
def cutI (x : Nat) : Int := ((double.read x).toInt .zero).getD 0
theorem cut_small {x : Nat} (h1 : leqB 13875379345695965184 x = true) (h2 : leqB x 4652007308841189376 = true) :
    (double.read x).toInt .zero = some (cutI x) ∧ (cutI x).natAbs ≤ 1000 ∧ Num (truncW x) (cutI x) ∧ eqlB x (truncW x) = eqlB x (fl (cutI x)) ∧ (eqlB x (fl (cutI x)) = true → Num x (cutI x)) := by
  obtain ⟨s, m, D, hr, hm⟩ := in_form h1 h2
  have hk : (double.read x).integral .zero = .number s (m / 2 ^ D) 0 := by
    rw [hr]
    unfold Datum.integral
    simp only
    rw [show (-(D : Int)).toNat = 0 by omega, show (-(-(D : Int))).toNat = D by omega, shl_eq, Nat.pow_zero, Nat.mul_one, cut_zero_eq]
  have hk1 : m / 2 ^ D ≤ 1000 := Nat.div_le_of_le_mul (by rw [Nat.mul_comm]; exact hm)
  have ht : (double.read x).toInt .zero = some (signed s (m / 2 ^ D) 0) := by
    unfold Datum.toInt
    rw [hk]
  have hc : cutI x = signed s (m / 2 ^ D) 0 := by unfold cutI; rw [ht]; rfl
  rw [hc, ht]
  generalize hq : m / 2 ^ D = k at *
  have hv : signed s k 0 = if s = true then -(k : Int) else (k : Int) := by
    unfold signed
    rw [shl_eq, Nat.pow_zero, Nat.mul_one]
  have ha : (signed s k 0).natAbs = k := by rw [hv]; split <;> omega
  have hsg : signed s k 0 ≠ 0 → s = decide (signed s k 0 < 0) := by
    intro h
    rw [hv] at h ⊢
    cases s
    · simp at h ⊢
    · simp at h ⊢; omega
  have hn : Num (truncW x) (signed s k 0) := by
    unfold truncW
    rw [hk]
    refine num_write ⟨s, 0, ?_, hsg⟩ (by rw [ha]; omega)
    rw [ha, Nat.pow_zero, Nat.mul_one]; rfl
  have hf : Num (fl (signed s k 0)) (signed s k 0) := num_fl _ (by rw [ha]; omega)
  have ho : ∀ y, Num y (signed s k 0) → eqlB x y = decide (signed s m 0 = signed s k 0 * ((2 ^ D : Nat) : Int)) := fun y hy => by
    have o1 : FloatKind.f64.format.order x y = some (compare (signed s m 0) (signed s k 0 * ((2 ^ D : Nat) : Int))) := by
      show (double.read x).order (double.read _) = _
      rw [hr]; exact order_at hy
    unfold eqlB
    rw [o1, cmp_eq]
  refine ⟨rfl, by rw [ha]; exact hk1, hn, by rw [ho _ hn, ho _ hf], fun h => ?_⟩
  rw [ho _ hf] at h
  have h := of_decide_eq_true h
  refine ⟨s, D, ?_, hsg⟩
  rw [hr, ha]
  have : m = k * 2 ^ D := by
    rw [← sgn_mul] at h
    unfold signed at h
    rw [shl_eq, shl_eq, Nat.pow_zero, Nat.mul_one] at h
    cases s
    · simp only [Bool.false_eq_true, if_false] at h; exact_mod_cast h
    · simp only [if_true] at h; have := Int.neg_inj.mp h; exact_mod_cast this
  rw [← this]
end Words
/-- What the law asks of a word. -/
def partB (x : Nat) : Bool := leqB 13875379345695965184 x && (leqB x 4652007308841189376 && eqlB x (fl (cutI x)))
theorem part_ww (x : Nat) : wwB x 13875379345695965184 4652007308841189376 = partB x := by
  unfold wwB partB
  cases h1 : leqB 13875379345695965184 x
  · rfl
  · cases h2 : leqB x 4652007308841189376
    · rfl
    · rw [(cut_small h1 h2).2.2.2.1]
theorem leq_flip (x y : Nat) : (FloatKind.f64.format.order x y == some .gt || FloatKind.f64.format.order x y == some .eq) = leqB y x := by
  unfold leqB
  rw [order_flip.1, order_flip.2]
set_option maxRecDepth 100000 in
set_option maxHeartbeats 1000000 in
theorem has_out (A : Option Addr) (n c : Nat) (zs : List Stp) (rs : List RSt) (a b : Nat) (h : wholeB a b = false) (B : Nat) (w : World) (hB : B ≤ w.heap.size) (hz : RowAt cellsZ 3 w B A n zs) (hl : LikeL zs rs) (hr : rightZ rs = true) :
    Calls Tryd.prog 23 #[.slice A n c, .complex .f64 a b] w fun e w' => e = .returned (.bool false) ∧ Below w.heap.size w w' := by
  have HR := Lib.hid (rightZ_any A n c zs rs B w hB hz hl)
  have HW := Lib.hid (whole_any a b)
  rw [h] at HW
  rw [hr] at HR
  clear hz hl hr h
  go_enter Tryd.func23, Tryd.ntmps23
  go_wp2_with fail
  refine (HR.out).mono ?_
  rintro e w1 ⟨rfl, hb⟩
  go_wp2_with fail
  refine (HW.out _).mono ?_
  rintro e w2 ⟨rfl, rfl⟩
  go_wp2
  go_ret
  exact ⟨rfl, hb⟩

theorem cut_int {x : Nat} {a : Int} (h : (Ieee.double.read x).toInt .zero = some a) (hb : a.natAbs ≤ 1000) : floatToIntVal .f64 x .i64 = some a := by
  have : (FloatKind.f64.decode x).toInt .zero = some a := h
  unfold floatToIntVal
  rw [this]
  simp only
  rw [if_pos ⟨by rw [show IntKind.i64.min = -9223372036854775808 by decide]; omega, by rw [show IntKind.i64.max = 9223372036854775807 by decide]; omega⟩]
theorem has_all (px py : Int) (h1 : px.natAbs ≤ 1000) (h2 : py.natAbs ≤ 1000) : hasZ allQ px py = true := by
  have hr : rightZ allQ = true := by decide
  have hw : wholeF px py = true := whole_iff.mpr (by omega)
  unfold hasZ
  rw [hr, hw]
  rfl
set_option maxRecDepth 100000 in
set_option maxHeartbeats 4000000 in
theorem zoneParts_walk (x y : Nat) (A : Option Addr) (n c : Nat) (rs : List RSt) (w : World) (hz : RowAt cellsR 4 w w.heap.size A n rs) (hn : n ≤ 9223372036854775807) (hg : Glob w) :
    Calls Tryd.prog 5 #[.float .f64 x, .float .f64 y, .slice A n c] w fun e w' => e = .returned (.bool true) ∧ Below w.heap.size w w' := by
  have HG := Lib.hid hg
  have hr1 := fix_right rs
  have hf := right_pos hr1
  have HFX : Hid (∀ u, Below w.heap.size w u → Calls Tryd.prog 21 #[.slice A n c] u (OwnRow cellsR 4 59 (fixZ rs) u)) := fun u hb => fix_any A n c rs w.heap.size u hb.size (hz.keep hb) hn
  generalize fixZ rs = qs at *
  have HRQ := Lib.hid hr1
  have HS1 := Lib.hid (right_small' hr1)
  have LX : Hid (LikeL (qs.map toS) qs) := to_like fun r hr => small_64 (HS1.out r hr)
  clear hz hg hr1
  have f1 := leq_flip x 13875379345695965184
  have f3 := leq_flip y 13875379345695965184
  have f2 : (FloatKind.f64.format.order x 4652007308841189376 == some .lt || FloatKind.f64.format.order x 4652007308841189376 == some .eq) = leqB x 4652007308841189376 := rfl
  have f4 : (FloatKind.f64.format.order y 4652007308841189376 == some .lt || FloatKind.f64.format.order y 4652007308841189376 == some .eq) = leqB y 4652007308841189376 := rfl
  have f5 : (FloatKind.f64.format.order x (fl (cutI x)) == some .eq) = eqlB x (fl (cutI x)) := rfl
  have f6 : (FloatKind.f64.format.order y (fl (cutI y)) == some .eq) = eqlB y (fl (cutI y)) := rfl
  have HPX : wholeB x y = ((leqB 13875379345695965184 x && (leqB x 4652007308841189376 && eqlB x (fl (cutI x)))) && (leqB 13875379345695965184 y && (leqB y 4652007308841189376 && eqlB y (fl (cutI y))))) := by
    show _ = (partB x && partB y)
    unfold wholeB
    rw [part_ww, part_ww]
  have HW := Lib.hid (whole_any x y)
  rcases h1 : leqB 13875379345695965184 x with _ | _
  · have hT : True := trivial
    rw [h1] at f1 HPX
    clear f2
    clear f3
    clear f4
    clear f5
    clear f6
    replace HPX : wholeB x y = false := by rw [HPX]; simp
    have HWF : Hid (wholeB x y = false) := HPX
    clear HPX
    rw [HWF.out] at HW
    try clear h1
    try clear h2
    try clear h3
    try clear h4
    try clear h5
    try clear h6
    go_enter Tryd.func5, Tryd.ntmps5
    go_wp2_with fail
    refine (told_any _ HG.out).mono ?_
    rintro e u1 ⟨rfl, hb⟩
    have HB := Lib.hid hb
    clear hb
    go_wp2_with fail
    refine (HW.out _).mono ?_
    rintro e u2 ⟨rfl, rfl⟩
    go_wp2_with fail
    refine (HFX.out _ HB.out).mono ?_
    rintro e u3 ⟨A1, c1, rfl, ho, hb⟩
    have HR1 := Lib.hid (own_row rowR ho)
    replace HB := Lib.hid (HB.out.trans (hb.mono HB.out.size))
    clear ho hb
    go_wp2_with fail
    refine (calledZ (m := qs.length) (List.length_map ..) (to_any A1 qs.length c1 qs _ _ (Nat.le_refl _) HR1.out (by omega))).mono ?_
    rintro e u4 ⟨A2, c2, rfl, hr, hb⟩
    have HR2 := Lib.hid hr
    replace HB := Lib.hid (HB.out.trans (hb.mono HB.out.size))
    clear hr hb HR1
    go_wp2_with fail
    refine (has_out A2 qs.length c2 _ qs x y HWF.out _ _ (Nat.le_refl _) HR2.out LX.out HRQ.out).mono ?_
    rintro e u5 ⟨rfl, hb⟩
    replace HB := Lib.hid (HB.out.trans (hb.mono HB.out.size))
    clear hb
    go_wp2
    go_ret
    exact ⟨rfl, HB.out⟩
  rw [h1] at f1 HPX
  rcases h2 : leqB x 4652007308841189376 with _ | _
  · have hT : True := trivial
    rw [h2] at f2 HPX
    clear f3
    clear f4
    clear f5
    clear f6
    replace HPX : wholeB x y = false := by rw [HPX]; simp
    have HWF : Hid (wholeB x y = false) := HPX
    clear HPX
    rw [HWF.out] at HW
    try clear h1
    try clear h2
    try clear h3
    try clear h4
    try clear h5
    try clear h6
    go_enter Tryd.func5, Tryd.ntmps5
    go_wp2_with fail
    refine (told_any _ HG.out).mono ?_
    rintro e u1 ⟨rfl, hb⟩
    have HB := Lib.hid hb
    clear hb
    go_wp2_with fail
    refine (HW.out _).mono ?_
    rintro e u2 ⟨rfl, rfl⟩
    go_wp2_with fail
    refine (HFX.out _ HB.out).mono ?_
    rintro e u3 ⟨A1, c1, rfl, ho, hb⟩
    have HR1 := Lib.hid (own_row rowR ho)
    replace HB := Lib.hid (HB.out.trans (hb.mono HB.out.size))
    clear ho hb
    go_wp2_with fail
    refine (calledZ (m := qs.length) (List.length_map ..) (to_any A1 qs.length c1 qs _ _ (Nat.le_refl _) HR1.out (by omega))).mono ?_
    rintro e u4 ⟨A2, c2, rfl, hr, hb⟩
    have HR2 := Lib.hid hr
    replace HB := Lib.hid (HB.out.trans (hb.mono HB.out.size))
    clear hr hb HR1
    go_wp2_with fail
    refine (has_out A2 qs.length c2 _ qs x y HWF.out _ _ (Nat.le_refl _) HR2.out LX.out HRQ.out).mono ?_
    rintro e u5 ⟨rfl, hb⟩
    replace HB := Lib.hid (HB.out.trans (hb.mono HB.out.size))
    clear hb
    go_wp2
    go_ret
    exact ⟨rfl, HB.out⟩
  rw [h2] at f2 HPX
  rcases h3 : leqB 13875379345695965184 y with _ | _
  · have hT : True := trivial
    rw [h3] at f3 HPX
    clear f4
    clear f5
    clear f6
    replace HPX : wholeB x y = false := by rw [HPX]; simp
    have HWF : Hid (wholeB x y = false) := HPX
    clear HPX
    rw [HWF.out] at HW
    try clear h1
    try clear h2
    try clear h3
    try clear h4
    try clear h5
    try clear h6
    go_enter Tryd.func5, Tryd.ntmps5
    go_wp2_with fail
    refine (told_any _ HG.out).mono ?_
    rintro e u1 ⟨rfl, hb⟩
    have HB := Lib.hid hb
    clear hb
    go_wp2_with fail
    refine (HW.out _).mono ?_
    rintro e u2 ⟨rfl, rfl⟩
    go_wp2_with fail
    refine (HFX.out _ HB.out).mono ?_
    rintro e u3 ⟨A1, c1, rfl, ho, hb⟩
    have HR1 := Lib.hid (own_row rowR ho)
    replace HB := Lib.hid (HB.out.trans (hb.mono HB.out.size))
    clear ho hb
    go_wp2_with fail
    refine (calledZ (m := qs.length) (List.length_map ..) (to_any A1 qs.length c1 qs _ _ (Nat.le_refl _) HR1.out (by omega))).mono ?_
    rintro e u4 ⟨A2, c2, rfl, hr, hb⟩
    have HR2 := Lib.hid hr
    replace HB := Lib.hid (HB.out.trans (hb.mono HB.out.size))
    clear hr hb HR1
    go_wp2_with fail
    refine (has_out A2 qs.length c2 _ qs x y HWF.out _ _ (Nat.le_refl _) HR2.out LX.out HRQ.out).mono ?_
    rintro e u5 ⟨rfl, hb⟩
    replace HB := Lib.hid (HB.out.trans (hb.mono HB.out.size))
    clear hb
    go_wp2
    go_ret
    exact ⟨rfl, HB.out⟩
  rw [h3] at f3 HPX
  rcases h4 : leqB y 4652007308841189376 with _ | _
  · have hT : True := trivial
    rw [h4] at f4 HPX
    clear f5
    clear f6
    replace HPX : wholeB x y = false := by rw [HPX]; simp
    have HWF : Hid (wholeB x y = false) := HPX
    clear HPX
    rw [HWF.out] at HW
    try clear h1
    try clear h2
    try clear h3
    try clear h4
    try clear h5
    try clear h6
    go_enter Tryd.func5, Tryd.ntmps5
    go_wp2_with fail
    refine (told_any _ HG.out).mono ?_
    rintro e u1 ⟨rfl, hb⟩
    have HB := Lib.hid hb
    clear hb
    go_wp2_with fail
    refine (HW.out _).mono ?_
    rintro e u2 ⟨rfl, rfl⟩
    go_wp2_with fail
    refine (HFX.out _ HB.out).mono ?_
    rintro e u3 ⟨A1, c1, rfl, ho, hb⟩
    have HR1 := Lib.hid (own_row rowR ho)
    replace HB := Lib.hid (HB.out.trans (hb.mono HB.out.size))
    clear ho hb
    go_wp2_with fail
    refine (calledZ (m := qs.length) (List.length_map ..) (to_any A1 qs.length c1 qs _ _ (Nat.le_refl _) HR1.out (by omega))).mono ?_
    rintro e u4 ⟨A2, c2, rfl, hr, hb⟩
    have HR2 := Lib.hid hr
    replace HB := Lib.hid (HB.out.trans (hb.mono HB.out.size))
    clear hr hb HR1
    go_wp2_with fail
    refine (has_out A2 qs.length c2 _ qs x y HWF.out _ _ (Nat.le_refl _) HR2.out LX.out HRQ.out).mono ?_
    rintro e u5 ⟨rfl, hb⟩
    replace HB := Lib.hid (HB.out.trans (hb.mono HB.out.size))
    clear hb
    go_wp2
    go_ret
    exact ⟨rfl, HB.out⟩
  rw [h4] at f4 HPX
  obtain ⟨t1, m1, n1, -, r1⟩ := cut_small h1 h2
  obtain ⟨t2, m2, n2, -, r2⟩ := cut_small h3 h4
  have hc1 := fun w => run_convert_float_int (P := Tryd.prog) w 47 3 .f64 .i64 x (cutI x) (by kernel_rfl) Tryd.underlying3 (cut_int t1 m1)
  have hc2 := fun w => run_convert_float_int (P := Tryd.prog) w 47 3 .f64 .i64 y (cutI y) (by kernel_rfl) Tryd.underlying3 (cut_int t2 m2)
  clear n1 n2 t1 t2 h1 h2 h3 h4
  generalize cutI x = nx at *
  generalize cutI y = ny at *
  rcases h5 : eqlB x (fl nx) with _ | _
  · have hT : True := trivial
    rw [h5] at f5 HPX
    clear f6 r1 r2 m1 m2
    replace HPX : wholeB x y = false := by rw [HPX]; simp
    have HWF : Hid (wholeB x y = false) := HPX
    clear HPX
    rw [HWF.out] at HW
    try clear h1
    try clear h2
    try clear h3
    try clear h4
    try clear h5
    try clear h6
    go_enter Tryd.func5, Tryd.ntmps5
    go_wp2_with fail
    refine (told_any _ HG.out).mono ?_
    rintro e u1 ⟨rfl, hb⟩
    have HB := Lib.hid hb
    clear hb
    go_wp2_with fail
    refine (HW.out _).mono ?_
    rintro e u2 ⟨rfl, rfl⟩
    go_wp2_with fail
    refine (HFX.out _ HB.out).mono ?_
    rintro e u3 ⟨A1, c1, rfl, ho, hb⟩
    have HR1 := Lib.hid (own_row rowR ho)
    replace HB := Lib.hid (HB.out.trans (hb.mono HB.out.size))
    clear ho hb
    go_wp2_with fail
    refine (calledZ (m := qs.length) (List.length_map ..) (to_any A1 qs.length c1 qs _ _ (Nat.le_refl _) HR1.out (by omega))).mono ?_
    rintro e u4 ⟨A2, c2, rfl, hr, hb⟩
    have HR2 := Lib.hid hr
    replace HB := Lib.hid (HB.out.trans (hb.mono HB.out.size))
    clear hr hb HR1
    go_wp2_with fail
    refine (has_out A2 qs.length c2 _ qs x y HWF.out _ _ (Nat.le_refl _) HR2.out LX.out HRQ.out).mono ?_
    rintro e u5 ⟨rfl, hb⟩
    replace HB := Lib.hid (HB.out.trans (hb.mono HB.out.size))
    clear hb
    go_wp2
    go_ret
    exact ⟨rfl, HB.out⟩
  rw [h5] at f5 HPX
  rcases h6 : eqlB y (fl ny) with _ | _
  · have hT : True := trivial
    rw [h6] at f6 HPX
    clear r1 r2 m1 m2
    replace HPX : wholeB x y = false := by rw [HPX]; simp
    have HWF : Hid (wholeB x y = false) := HPX
    clear HPX
    rw [HWF.out] at HW
    try clear h1
    try clear h2
    try clear h3
    try clear h4
    try clear h5
    try clear h6
    go_enter Tryd.func5, Tryd.ntmps5
    go_wp2_with fail
    refine (told_any _ HG.out).mono ?_
    rintro e u1 ⟨rfl, hb⟩
    have HB := Lib.hid hb
    clear hb
    go_wp2_with fail
    refine (HW.out _).mono ?_
    rintro e u2 ⟨rfl, rfl⟩
    go_wp2_with fail
    refine (HFX.out _ HB.out).mono ?_
    rintro e u3 ⟨A1, c1, rfl, ho, hb⟩
    have HR1 := Lib.hid (own_row rowR ho)
    replace HB := Lib.hid (HB.out.trans (hb.mono HB.out.size))
    clear ho hb
    go_wp2_with fail
    refine (calledZ (m := qs.length) (List.length_map ..) (to_any A1 qs.length c1 qs _ _ (Nat.le_refl _) HR1.out (by omega))).mono ?_
    rintro e u4 ⟨A2, c2, rfl, hr, hb⟩
    have HR2 := Lib.hid hr
    replace HB := Lib.hid (HB.out.trans (hb.mono HB.out.size))
    clear hr hb HR1
    go_wp2_with fail
    refine (has_out A2 qs.length c2 _ qs x y HWF.out _ _ (Nat.le_refl _) HR2.out LX.out HRQ.out).mono ?_
    rintro e u5 ⟨rfl, hb⟩
    replace HB := Lib.hid (HB.out.trans (hb.mono HB.out.size))
    clear hb
    go_wp2
    go_ret
    exact ⟨rfl, HB.out⟩
  rw [h6] at f6 HPX
  replace HPX : wholeB x y = true := by rw [HPX]; simp
  rw [HPX] at HW
  have HN1 := Lib.hid (r1 h5)
  have HN2 := Lib.hid (r2 h6)
  have HHA := Lib.hid (has_all nx ny m1 m2)
  have hx53 : nx.natAbs < 2 ^ 53 := by omega
  have hy53 : ny.natAbs < 2 ^ 53 := by omega
  clear HPX r1 r2 m1 m2 h5 h6 HFX
  go_enter Tryd.func5, Tryd.ntmps5
  go_wp2_with fail
  refine (told_any _ HG.out).mono ?_
  rintro e u1 ⟨rfl, hb⟩
  have HB := Lib.hid hb
  clear hb
  go_wp2_with fail
  refine (HW.out _).mono ?_
  rintro e u2 ⟨rfl, rfl⟩
  go_wp2_with fail
  refine (everywhere_any _).mono ?_
  rintro e u3 ⟨A1, zs, rfl, hr, hl, hb⟩
  have HR1 := Lib.hid hr
  have HL1 := Lib.hid hl
  replace HB := Lib.hid (HB.out.trans (hb.mono HB.out.size))
  clear hr hl hb
  have CH := Lib.hid (has_any A1 1 1 zs allQ x y nx ny HN1.out HN2.out hx53 hy53 _ _ (Nat.le_refl _) HR1.out HL1.out)
  rw [HHA.out] at CH
  go_wp2_with fail
  refine (CH.out).mono ?_
  rintro e u4 ⟨rfl, hb⟩
  replace HB := Lib.hid (HB.out.trans (hb.mono HB.out.size))
  clear hb CH
  go_wp2
  go_ret
  exact ⟨rfl, HB.out⟩
end Go.Proofs.YtkklikkmpmlnbaaDoor
