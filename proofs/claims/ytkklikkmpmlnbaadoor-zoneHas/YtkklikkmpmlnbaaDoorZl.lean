/- The document's Has. -/
import Derived.Test.YtkklikkmpmlnbaaDoorZk
import Derived.Test.YtkklikkmpmlnbaaDoorRt
namespace Go.Proofs.YtkklikkmpmlnbaaDoor
open Go.RowKit

theorem sq_le {a : Int} {m : Nat} (h : a.natAbs ≤ m) : 0 ≤ a * a ∧ a * a ≤ ((m * m : Nat) : Int) := by
  have h1 : a * a = ((a.natAbs * a.natAbs : Nat) : Int) := by rw [Int.natCast_mul, Int.natAbs_mul_self' a]
  rw [h1]
  exact ⟨by omega, by exact_mod_cast Nat.mul_le_mul h h⟩
theorem mul_le {a b : Int} {m n : Nat} (h : a.natAbs ≤ m) (h' : b.natAbs ≤ n) : -((m * n : Nat) : Int) ≤ a * b ∧ a * b ≤ ((m * n : Nat) : Int) := by
  have h1 : (a * b).natAbs ≤ m * n := by rw [Int.natAbs_mul]; exact Nat.mul_le_mul h h'
  omega
theorem below_drewish2 {B : Nat} {a w : World} (h : Below B a w) : Below B a w.drew := ⟨h.os, h.tape, h.output, h.size, h.block⟩
theorem set_last {ts : List Bool} {L : Nat} (hL : ts.length = L) (h : 0 < L) (b : Bool) : ts.set (L - 1) b = ts.take (L - 1) ++ [b] := by
  apply List.ext_getElem?
  intro i
  rw [List.getElem?_set]
  by_cases h1 : L - 1 = i
  · subst h1
    rw [if_pos rfl, if_pos (by omega), List.getElem?_append_right (by rw [List.length_take]; omega), List.length_take, show L - 1 - min (L - 1) ts.length = 0 by omega]
    rfl
  · rw [if_neg h1]
    rcases Nat.lt_or_ge i (L - 1) with h2 | h2
    · rw [List.getElem?_append_left (by rw [List.length_take]; omega), List.getElem?_take, if_pos h2]
    · rw [List.getElem?_eq_none (by omega), List.getElem?_eq_none (by rw [List.length_append, List.length_take, List.length_singleton]; omega)]

set_option maxRecDepth 100000 in
set_option maxHeartbeats 8000000 in
theorem rhas_any (A : Option Addr) (n c : Nat) (rs : List RSt) (px py : Int) (B : Nat) (w : World) (hB : B ≤ w.heap.size) (hz : RowAt cellsR 4 w B A n rs) (hn63 : n ≤ 9223372036854775807) :
    Calls Tryd.prog 25 #[.slice A n c, .agg #[.int .i64 px, .int .i64 py]] w fun e w' => e = .returned (.bool (hasZ rs px py)) ∧ Below w.heap.size w w' := by
  have hb0 : Below w.heap.size w (w.alloc (.cells #[.int .i64 px, .int .i64 py] 37)) := (Below.refl _ _).alloc (Nat.le_refl _) _
  have HR := Lib.hid (rright_any A n c rs B (w.alloc (.cells #[.int .i64 px, .int .i64 py] 37)) (by simp; omega) (hz.keep (hb0.mono hB)) hn63)
  have HW := Lib.hid (rwhole_any px py)
  rcases hr : rightZ rs with _ | _
  · have HF : Hid (hasZ rs px py = false) := by show _ = _; unfold hasZ; rw [hr]; rfl
    rw [hr] at HR
    clear hz hr
    go_enter Tryd.func25, Tryd.ntmps25
    go_wp2_with fail
    refine (HR.out).mono ?_
    rintro e w1 ⟨rfl, hb⟩
    go_wp2
    go_ret
    exact ⟨ret_bool HF.out.symm, hb0.trans (hb.mono hb0.size)⟩
  rcases hw : wholeF px py with _ | _
  · have HF : Hid (hasZ rs px py = false) := by show _ = _; unfold hasZ; rw [hr, hw]; rfl
    rw [hr] at HR
    rw [hw] at HW
    have k0 : (w.alloc (.cells #[.int .i64 px, .int .i64 py] 37)).cell? ⟨w.heap.size, 0, none⟩ = some (.int .i64 px) := by simp [go_sem]
    have k1 : (w.alloc (.cells #[.int .i64 px, .int .i64 py] 37)).cell? ⟨w.heap.size, 1, none⟩ = some (.int .i64 py) := by simp [go_sem]
    clear hz hr hw
    go_enter Tryd.func25, Tryd.ntmps25
    go_wp2_with fail
    refine (HR.out).mono ?_
    rintro e w1 ⟨rfl, hb⟩
    replace k0 := (hb.cell (p := ⟨w.heap.size, 0, none⟩) (by simp)).trans k0
    replace k1 := (hb.cell (p := ⟨w.heap.size, 1, none⟩) (by simp)).trans k1
    have hb1 := hb0.trans (hb.mono hb0.size)
    clear hb
    go_wp2_with fail
    refine (HW.out _).mono ?_
    rintro e w2 ⟨rfl, hb2⟩
    go_wp2
    go_ret
    exact ⟨ret_bool HF.out.symm, hb1.trans (hb2.mono hb1.size)⟩
  obtain ⟨ans, hans⟩ := run_one px py hr
  have HF : Hid (hasZ rs px py = ans) := by show _ = _; unfold hasZ; rw [hr, hw, hans]; rfl
  have HRI := Lib.hid hr
  have HAN := Lib.hid hans
  have HLN : Hid (rs.length = n) := hz.1
  have HZ0 := Lib.hid (hz.keep (hb0.mono hB))
  have hn : n ≤ 32 := by have := (right_fold hr).1; have := HLN.out; omega
  obtain ⟨⟨p1, p2⟩, p3, p4⟩ := whole_iff.mp hw
  have k0 : (w.alloc (.cells #[.int .i64 px, .int .i64 py] 37)).cell? ⟨w.heap.size, 0, none⟩ = some (.int .i64 px) := by simp [go_sem]
  have k1 : (w.alloc (.cells #[.int .i64 px, .int .i64 py] 37)).cell? ⟨w.heap.size, 1, none⟩ = some (.int .i64 py) := by simp [go_sem]
  rw [hr] at HR
  rw [hw] at HW
  clear hz hr hw hans
  go_enter Tryd.func25, Tryd.ntmps25
  go_wp2_with fail
  refine (HR.out).mono ?_
  rintro e w1 ⟨rfl, hb⟩
  replace k0 := (hb.cell (p := ⟨w.heap.size, 0, none⟩) (by simp)).trans k0
  replace k1 := (hb.cell (p := ⟨w.heap.size, 1, none⟩) (by simp)).trans k1
  have hP : w.heap.size < w1.heap.size := by have := hb.size; simp at this; omega
  have hb1 := hb0.trans (hb.mono hb0.size)
  have HZ1 := Lib.hid (HZ0.out.keep (hb.mono (show B ≤ (w.alloc (.cells #[.int .i64 px, .int .i64 py] 37)).heap.size by simp; omega)))
  clear hb HR HZ0 hb0
  go_wp2_with fail
  refine (HW.out _).mono ?_
  rintro e w2 ⟨rfl, hb2⟩
  have KP0 : Hid (w2.cell? ⟨w.heap.size, 0, none⟩ = some (.int .i64 px)) := (hb2.cell (p := ⟨w.heap.size, 0, none⟩) hP).trans k0
  have KP1 : Hid (w2.cell? ⟨w.heap.size, 1, none⟩ = some (.int .i64 py)) := (hb2.cell (p := ⟨w.heap.size, 1, none⟩) hP).trans k1
  have HBW : Hid (Below w.heap.size w w2) := hb1.trans (hb2.mono hb1.size)
  have HZ := Lib.hid (HZ1.out.keep (hb2.mono (show B ≤ w1.heap.size by omega)))
  replace hP : w.heap.size < w2.heap.size := Nat.lt_of_lt_of_le hP hb2.size
  have hB2 : B ≤ w2.heap.size := by omega
  clear hb2 hb1 k0 k1 HZ1
  generalize hPP : w.heap.size = P at *
  go_wp2
  go_loopw [5, 6] (fun tr i wr => ∃ (k L : Nat) (Av : Option Addr) (cv : Nat), k ≤ n ∧ i = .int .i64 k ∧ tr = .slice Av L cv ∧ Hid (HalfH px py rs w2 k Av L cv wr)) (fun _ i _ => n - (intOf i).toNat)
  case atStart => exact ⟨0, 0, none, 0, by omega, rfl, rfl, rfl, rown_nil _ _, Below.refl _ _⟩
  case round =>
    obtain ⟨k, L, Av, cv, hk, rfl, rfl, HC⟩ := hrel
    obtain ⟨hLn, hown, hbel⟩ := HC.out
    have HLL := Lib.hid hLn
    have HO := Lib.hid hown
    have HB := Lib.hid hbel
    have hcap := rown_cap hown
    have hLk : L ≤ 32 := by
      have h3 := run_le px py (rs.take k) []
      rw [← hLn, List.length_take] at h3
      simp only [List.length_nil] at h3
      omega
    clear hown hbel HC hLn
    by_cases hlt : k < n
    · obtain ⟨blk, off, rfl, hbB, r, hrk, hcell⟩ := HZ.out.get hlt
      obtain ⟨e0, e1, e2, e3⟩ := cellsR_at hcell
      replace e0 := ((HB.out.mono hB2).cell (p := ⟨blk, off + k * 4, none⟩) hbB).trans e0
      replace e1 := ((HB.out.mono hB2).cell (p := ⟨blk, off + k * 4 + 1, none⟩) hbB).trans e1
      replace e2 := ((HB.out.mono hB2).cell (p := ⟨blk, off + k * 4 + 2, none⟩) hbB).trans e2
      replace e3 := ((HB.out.mono hB2).cell (p := ⟨blk, off + k * 4 + 3, none⟩) hbB).trans e3
      have hi1 : (k : Int) < n := by omega
      have HSN := Lib.hid (runH_snoc px py hrk)
      obtain ⟨hfit, htk⟩ := run_step px py HRI.out hrk
      rw [← HLL.out] at htk
      have HFT := Lib.hid hfit
      generalize hts : runH px py [] (rs.take k) = ts at *
      have HNX : Hid (∀ (Av' : Option Addr) (L' cv' : Nat) (wr' : World), L' = (stepH px py ts r).length → wr'.ownsRow w2.heap.size 4 1 (.slice Av' L' cv') L' (rowCells cellsB (stepH px py ts r)) → Below w2.heap.size w2 wr' → HalfH px py rs w2 (k + 1) Av' L' cv' wr') := fun Av' L' cv' wr' h1 h2 h3 => ⟨by rw [HSN.out]; exact h1, by rw [HSN.out]; exact h2, h3⟩
      obtain ⟨op, x, y, z⟩ := r
      simp only at e0 e1 e2 e3 htk
      clear hcell hrk hfit HSN
      go_upto_region 9 with fail
      have k0 : (wr.alloc (.cells #[.int .i64 op, .int .i64 x, .int .i64 y, .int .i64 z] 59)).cell? ⟨wr.heap.size, 0, none⟩ = some (.int .i64 op) := by simp [go_sem]
      have k1 : (wr.alloc (.cells #[.int .i64 op, .int .i64 x, .int .i64 y, .int .i64 z] 59)).cell? ⟨wr.heap.size, 1, none⟩ = some (.int .i64 x) := by simp [go_sem]
      have k2 : (wr.alloc (.cells #[.int .i64 op, .int .i64 x, .int .i64 y, .int .i64 z] 59)).cell? ⟨wr.heap.size, 2, none⟩ = some (.int .i64 y) := by simp [go_sem]
      have k3 : (wr.alloc (.cells #[.int .i64 op, .int .i64 x, .int .i64 y, .int .i64 z] 59)).cell? ⟨wr.heap.size, 3, none⟩ = some (.int .i64 z) := by simp [go_sem]
      have kp0 : (wr.alloc (.cells #[.int .i64 op, .int .i64 x, .int .i64 y, .int .i64 z] 59)).cell? ⟨P, 0, none⟩ = some (.int .i64 px) := ((HB.out.alloc HB.out.size _).cell (p := ⟨P, 0, none⟩) hP).trans KP0.out
      have kp1 : (wr.alloc (.cells #[.int .i64 op, .int .i64 x, .int .i64 y, .int .i64 z] 59)).cell? ⟨P, 1, none⟩ = some (.int .i64 py) := ((HB.out.alloc HB.out.size _).cell (p := ⟨P, 1, none⟩) hP).trans KP1.out
      have kz : wr.heap.size < (wr.alloc (.cells #[.int .i64 op, .int .i64 x, .int .i64 y, .int .i64 z] 59)).heap.size := by simp
      have HX : Hid (∀ q, q ≤ L → ∀ g, Value.ownBlock (.slice Av q cv) = some g → w2.heap.size ≤ g ∧ g < wr.heap.size) := fun q hq g e => (own_take HO.out hq).lt g e
      replace HO := Lib.hid (HO.out.alloc (.cells #[.int .i64 op, .int .i64 x, .int .i64 y, .int .i64 z] 59))
      replace HB : Hid (Below w2.heap.size w2 (wr.alloc (.cells #[.int .i64 op, .int .i64 x, .int .i64 y, .int .i64 z] 59))) := HB.out.alloc HB.out.size _
      clear e0 e1 e2 e3
      generalize (wr.alloc (.cells #[.int .i64 op, .int .i64 x, .int .i64 y, .int .i64 z] 59)) = W1 at *
      generalize wr.heap.size = X at *
      have hsz := HB.out.size
      by_cases h1 : op = 1
      · subst h1
        skip
        have htr : truthF ⟨1, x, y, z⟩ (ts.drop (ts.length - (takesF 1).toNat)) px py = true := rfl
        have hst : stepH px py ts ⟨1, x, y, z⟩ = ts ++ [true] := by
          unfold stepH
          simp only
          rw [htr, show (takesF 1).toNat = 0 from rfl, Nat.sub_zero, List.take_length]
        have HST := Lib.hid hst
        clear hst htr
        skip
        have HR1 : Hid (RowAt cellsB 1 (W1.alloc (.cells #[.bool true] 4)) (W1.heap.size + 1) (some ⟨W1.heap.size, 0, none⟩) 1 [true]) := one_row rowB (heap_alloc_new W1 _)
        have HO1 := Lib.hid (HO.out.alloc (.cells #[.bool true] 4))
        go_wp2_with (at_builtin; refine wpList_append_row rowB (B := w2.heap.size) (v := .slice Av L cv) (n := L) (zs := ts) (m := 1) (ys := [true]) rfl _ _ rfl rfl HO1.out rfl HR1.out (by omega) (by simp; omega) ?_; intro A3 c3 w3 hown3 hg3 hat3)
        have HC3 : Hid (HalfH px py rs w2 (k + 1) A3 (L + 1) c3 w3) := HNX.out _ _ _ _ (by rw [HST.out, List.length_append, List.length_singleton, ← HLL.out]) (by rw [HST.out]; exact hown3) ((HB.out.alloc hsz _).grown hg3 (Nat.le_trans hsz (by simp)) (fun g e => (HO.out.lt g e).1))
        clear hown3 hg3 hat3
        go_wp2
        go_roundw
        case rel => exact ⟨k + 1, L + 1, A3, c3, by omega, by go_num, rfl, HC3⟩
        case measure => simp [intOf]; omega
      by_cases h2 : op = 2
      · subst h2
        have hf' : (wholeF x y && withinF z 0 2000) = true := HFT.out
        rw [Bool.and_eq_true, whole_iff, within_iff] at hf'
        obtain ⟨s1, s2⟩ := sq_le (a := px - x) (m := 2000) (by omega)
        obtain ⟨s3, s4⟩ := sq_le (a := py - y) (m := 2000) (by omega)
        obtain ⟨s5, s6⟩ := sq_le (a := z) (m := 2000) (by omega)
        have htr : truthF ⟨2, x, y, z⟩ (ts.drop (ts.length - (takesF 2).toNat)) px py = decide ((px - x) * (px - x) + (py - y) * (py - y) ≤ z * z) := rfl
        have hst : stepH px py ts ⟨2, x, y, z⟩ = ts ++ [decide ((px - x) * (px - x) + (py - y) * (py - y) ≤ z * z)] := by
          unfold stepH
          simp only
          rw [htr, show (takesF 2).toNat = 0 from rfl, Nat.sub_zero, List.take_length]
        have HST := Lib.hid hst
        clear hst htr
        generalize hbv : (decide ((px - x) * (px - x) + (py - y) * (py - y) ≤ z * z) : Bool) = bv at *
        have HR1 : Hid (RowAt cellsB 1 (W1.alloc (.cells #[.bool bv] 4)) (W1.heap.size + 1) (some ⟨W1.heap.size, 0, none⟩) 1 [bv]) := one_row rowB (heap_alloc_new W1 _)
        have HO1 := Lib.hid (HO.out.alloc (.cells #[.bool bv] 4))
        go_wp2_with (at_builtin; refine wpList_append_row rowB (B := w2.heap.size) (v := .slice Av L cv) (n := L) (zs := ts) (m := 1) (ys := [bv]) rfl _ _ rfl rfl HO1.out rfl HR1.out (by omega) (by simp; omega) ?_; intro A3 c3 w3 hown3 hg3 hat3)
        have HC3 : Hid (HalfH px py rs w2 (k + 1) A3 (L + 1) c3 w3) := HNX.out _ _ _ _ (by rw [HST.out, List.length_append, List.length_singleton, ← HLL.out]) (by rw [HST.out]; exact hown3) ((HB.out.alloc hsz _).grown hg3 (Nat.le_trans hsz (by simp)) (fun g e => (HO.out.lt g e).1))
        clear hown3 hg3 hat3
        go_wp2
        go_roundw
        case rel => exact ⟨k + 1, L + 1, A3, c3, by omega, by go_num, rfl, HC3⟩
        case measure => simp [intOf]; omega
      by_cases h3 : op = 3
      · subst h3
        have hf' : (wholeF x y && withinF z (-2000000) 2000000) = true := HFT.out
        rw [Bool.and_eq_true, whole_iff, within_iff] at hf'
        obtain ⟨s1, s2⟩ := mul_le (a := px) (b := x) (m := 1000) (n := 1000) (by omega) (by omega)
        obtain ⟨s3, s4⟩ := mul_le (a := py) (b := y) (m := 1000) (n := 1000) (by omega) (by omega)
        have htr : truthF ⟨3, x, y, z⟩ (ts.drop (ts.length - (takesF 3).toNat)) px py = decide (z ≤ px * x + py * y) := rfl
        have hst : stepH px py ts ⟨3, x, y, z⟩ = ts ++ [decide (z ≤ px * x + py * y)] := by
          unfold stepH
          simp only
          rw [htr, show (takesF 3).toNat = 0 from rfl, Nat.sub_zero, List.take_length]
        have HST := Lib.hid hst
        clear hst htr
        generalize hbv : (decide (z ≤ px * x + py * y) : Bool) = bv at *
        have HR1 : Hid (RowAt cellsB 1 (W1.alloc (.cells #[.bool bv] 4)) (W1.heap.size + 1) (some ⟨W1.heap.size, 0, none⟩) 1 [bv]) := one_row rowB (heap_alloc_new W1 _)
        have HO1 := Lib.hid (HO.out.alloc (.cells #[.bool bv] 4))
        go_wp2_with (at_builtin; refine wpList_append_row rowB (B := w2.heap.size) (v := .slice Av L cv) (n := L) (zs := ts) (m := 1) (ys := [bv]) rfl _ _ rfl rfl HO1.out rfl HR1.out (by omega) (by simp; omega) ?_; intro A3 c3 w3 hown3 hg3 hat3)
        have HC3 : Hid (HalfH px py rs w2 (k + 1) A3 (L + 1) c3 w3) := HNX.out _ _ _ _ (by rw [HST.out, List.length_append, List.length_singleton, ← HLL.out]) (by rw [HST.out]; exact hown3) ((HB.out.alloc hsz _).grown hg3 (Nat.le_trans hsz (by simp)) (fun g e => (HO.out.lt g e).1))
        clear hown3 hg3 hat3
        go_wp2
        go_roundw
        case rel => exact ⟨k + 1, L + 1, A3, c3, by omega, by go_num, rfl, HC3⟩
        case measure => simp [intOf]; omega
      by_cases h4 : op = 4
      · subst h4
        have hL1 : 0 < L := by have : takesF 4 = 1 := rfl; omega
        obtain ⟨g, o, rfl, hgl, c0⟩ := bool_at (own_row rowB HO.out) (k := L - 1) (by omega)
        obtain rfl : o = 0 := by
          obtain ⟨g', cap', e, _⟩ := HO.out.form hL1
          injection e with e
          injection e with e
          injection e
        rw [Nat.zero_add] at c0
        have hst : stepH px py ts ⟨4, x, y, z⟩ = ts.set (L - 1) (!ts.getD (L - 1) false) := by
          rw [set_last HLL.out.symm hL1]
          unfold stepH
          simp only
          rw [show (takesF 4).toNat = 1 from rfl, ← HLL.out]
          congr 1
          show [(!(ts.drop (L - 1)).getD 0 false)] = _
          rw [List.getD_eq_getElem?_getD, List.getElem?_drop, List.getD_eq_getElem?_getD]
          rfl
        have HST := Lib.hid hst
        have HOP := Lib.hid (own_put rowB HO.out (k := L - 1) (by rw [← HLL.out]; omega) (!ts.getD (L - 1) false))
        generalize ts.getD (L - 1) false = b0 at *
        have hi2 : (L : Int) - 1 = ((L - 1 : Nat) : Int) := by omega
        have hlq : L - 1 < L := by omega
        generalize hq : L - 1 = q at *
        have hgx : w2.heap.size ≤ g := ((HX.out L (Nat.le_refl _) g rfl).1)
        have hfz : W1.frozen? ⟨g, q, none⟩ = false := HO.out.frozenAt q
        clear hst
        have HC3 : Hid (HalfH px py rs w2 (k + 1) (some ⟨g, 0, none⟩) L cv (W1.setCell ⟨g, q, none⟩ (.bool (!b0)))) := HNX.out _ _ _ _ (by rw [HST.out, List.length_set, ← HLL.out]) (by
          rw [HST.out]
          have h := HOP.out
          simp only [wsets, cellsB, Nat.mul_one] at h
          exact h) (HB.out.setCell (by simpa using hgx) _)
        go_wp2
        go_roundw
        case rel => exact ⟨k + 1, L, _, cv, by omega, by go_num, rfl, HC3⟩
        case measure => simp [intOf]; omega
      by_cases h5 : op = 5
      · subst h5
        have hL2 : 1 < L := by have : takesF 5 = 2 := rfl; omega
        obtain ⟨q, rfl⟩ : ∃ q, L = q + 2 := ⟨L - 2, by omega⟩
        obtain ⟨g, o, rfl, hgl, c0⟩ := bool_at (own_row rowB HO.out) (k := q) (by omega)
        obtain ⟨g', o', e', _, c1⟩ := bool_at (own_row rowB HO.out) (k := q + 1) (by omega)
        obtain rfl : o = 0 := by
          obtain ⟨g', cap', e, _⟩ := HO.out.form (by omega)
          injection e with e
          injection e with e
          injection e
        obtain ⟨rfl, rfl⟩ : g = g' ∧ 0 = o' := by injection e' with e'; injection e' with e1 e2; exact ⟨e1, e2⟩
        rw [Nat.zero_add] at c0 c1
        have hst : stepH px py ts ⟨5, x, y, z⟩ = ts.take q ++ [ts.getD q false && ts.getD (q + 1) false] := by
          unfold stepH
          simp only
          rw [show (takesF 5).toNat = 2 from rfl, ← HLL.out, show q + 2 - 2 = q by omega]
          congr 1
          show [(ts.drop q).getD 0 false && (ts.drop q).getD 1 false] = _
          simp only [List.getD_eq_getElem?_getD, List.getElem?_drop, Nat.add_zero]
        have HST := Lib.hid hst
        have HLQ : Hid (ts.length = q + 2) := HLL.out.symm
        generalize ts.getD q false = b0 at *
        generalize ts.getD (q + 1) false = b1 at *
        have hi2 : ((q + 2 : Nat) : Int) - 2 = (q : Int) := by omega
        have hi3 : ((q + 2 : Nat) : Int) - 1 = ((q + 1 : Nat) : Int) := by omega
        have hqc : q ≤ cv := by omega
        have hq2 : q < q + 2 := by omega
        have hq3 : q + 1 < q + 2 := by omega
        have HGX := Lib.hid (HX.out q (by omega))
        have hgl' : g < W1.heap.size := hgl
        have hL32 : q + 2 ≤ 32 := hLk
        have hwq : IntKind.i64.wrap (q : Int) = (q : Int) := IntWalk.i64_in _ (by omega)
        have hwq1 : IntKind.i64.wrap ((q : Int) + 1) = (q : Int) + 1 := IntWalk.i64_in _ (by omega)
        have hwq2 : IntKind.i64.wrap ((q : Int) + 2 - 1) = (q : Int) + 1 := by rw [show (q : Int) + 2 - 1 = (q : Int) + 1 by omega]; exact IntWalk.i64_in _ (by omega)
        have h0q : (0 : Int) ≤ (q : Int) := by omega
        have h0q1 : (0 : Int) ≤ (q : Int) + 1 := by omega
        have hqcv : (q : Int) ≤ (cv : Int) := by omega
        have hqi2 : (q : Int) < (q : Int) + 2 := by omega
        have hqi1 : (q : Int) + 1 < (q : Int) + 2 := by omega
        have htn : ((q : Int) + 1).toNat = q + 1 := by omega
        clear hst e' hgl
        go_upto_region 19 with fail
        have hW : W1.heap.size = W1.heap.size := rfl
        cases b0
        · skip
          refine tail_begin (S := fun w' => w'.cell? ⟨g, q, none⟩ = some (.bool false) ∧ w'.cell? ⟨g, q + 1, none⟩ = some (.bool b1)) 17 (by kernel_rfl) ⟨c0, c1⟩ (fun hHeld => ?_)
          refine tail_take (i := 0) (oi := { dst := some 103, op := Go.Op.move (Go.Operand.tmp 5), type := 70, pos := "ref.go:82", after := #[], guard := none }) (v := ?_) rfl (by kernel_rfl) (by kernel_rfl) (by kernel_rfl) (by kernel_rfl) (fun _ _ _ h => h) (Or.inl ⟨rfl, ?_⟩) (by assumption) ?_
          rotate_left
          · intro wz hSw; (try dsimp only at hSw); go_simp; try (with_reducible rfl)
          try simp only [Act.put, List.setIfInBounds_toArray, List.set_cons_zero, List.set_cons_succ]
          refine tail_take (i := 1) (oi := { dst := some 104, op := Go.Op.move (Go.Operand.tmp 8), type := 3, pos := "ref.go:82", after := #[], guard := none }) (v := ?_) rfl (by kernel_rfl) (by kernel_rfl) (by kernel_rfl) (by kernel_rfl) (fun _ _ _ h => h) (Or.inl ⟨rfl, ?_⟩) (by assumption) ?_
          rotate_left
          · intro wz hSw; (try dsimp only at hSw); go_simp; try (with_reducible rfl)
          try simp only [Act.put, List.setIfInBounds_toArray, List.set_cons_zero, List.set_cons_succ]
          refine tail_take (i := 2) (oi := { dst := some 105, op := Go.Op.binOp Go.BinOp.sub 3 (Go.Operand.tmp 104) (Go.Operand.const (Go.Value.int Go.IntKind.i64 2)) 3, type := 3, pos := "ref.go:82", after := #[{ on := 1, ground := Go.Ground.data }], guard := none }) (v := ?_) rfl (by kernel_rfl) (by kernel_rfl) (by kernel_rfl) (by kernel_rfl) (fun _ _ _ h => h) (Or.inl ⟨rfl, ?_⟩) (by assumption) ?_
          rotate_left
          · intro wz hSw; (try dsimp only at hSw); go_simp; try (with_reducible rfl)
          try simp only [Act.put, List.setIfInBounds_toArray, List.set_cons_zero, List.set_cons_succ]
          refine tail_take (i := 3) (oi := { dst := some 106, op := Go.Op.slice 70 (Go.Operand.tmp 103) none (some (Go.Operand.tmp 105)) none, type := 70, pos := "ref.go:82", after := #[{ on := 0, ground := Go.Ground.data }, { on := 2, ground := Go.Ground.data }], guard := none }) (v := ?_) rfl (by kernel_rfl) (by kernel_rfl) (by kernel_rfl) (by kernel_rfl) (fun _ _ _ h => h) (Or.inl ⟨rfl, ?_⟩) (by assumption) ?_
          rotate_left
          · intro wz hSw; (try dsimp only at hSw); go_simp; try (with_reducible rfl)
          try simp only [Act.put, List.setIfInBounds_toArray, List.set_cons_zero, List.set_cons_succ]
          refine tail_take (i := 4) (oi := { dst := some 107, op := Go.Op.move (Go.Operand.tmp 5), type := 70, pos := "ref.go:82", after := #[], guard := none }) (v := ?_) rfl (by kernel_rfl) (by kernel_rfl) (by kernel_rfl) (by kernel_rfl) (fun _ _ _ h => h) (Or.inl ⟨rfl, ?_⟩) (by assumption) ?_
          rotate_left
          · intro wz hSw; (try dsimp only at hSw); go_simp; try (with_reducible rfl)
          try simp only [Act.put, List.setIfInBounds_toArray, List.set_cons_zero, List.set_cons_succ]
          refine tail_take (i := 5) (oi := { dst := some 108, op := Go.Op.move (Go.Operand.tmp 8), type := 3, pos := "ref.go:82", after := #[], guard := none }) (v := ?_) rfl (by kernel_rfl) (by kernel_rfl) (by kernel_rfl) (by kernel_rfl) (fun _ _ _ h => h) (Or.inl ⟨rfl, ?_⟩) (by assumption) ?_
          rotate_left
          · intro wz hSw; (try dsimp only at hSw); go_simp; try (with_reducible rfl)
          try simp only [Act.put, List.setIfInBounds_toArray, List.set_cons_zero, List.set_cons_succ]
          refine tail_take (i := 6) (oi := { dst := some 109, op := Go.Op.binOp Go.BinOp.sub 3 (Go.Operand.tmp 108) (Go.Operand.const (Go.Value.int Go.IntKind.i64 2)) 3, type := 3, pos := "ref.go:82", after := #[{ on := 5, ground := Go.Ground.data }], guard := none }) (v := ?_) rfl (by kernel_rfl) (by kernel_rfl) (by kernel_rfl) (by kernel_rfl) (fun _ _ _ h => h) (Or.inl ⟨rfl, ?_⟩) (by assumption) ?_
          rotate_left
          · intro wz hSw; (try dsimp only at hSw); go_simp; try (with_reducible rfl)
          try simp only [Act.put, List.setIfInBounds_toArray, List.set_cons_zero, List.set_cons_succ]
          refine tail_take (i := 7) (oi := { dst := some 110, op := Go.Op.indexAddr 70 (Go.Operand.tmp 107) (Go.Operand.tmp 109), type := 0, pos := "ref.go:82", after := #[{ on := 4, ground := Go.Ground.data }, { on := 6, ground := Go.Ground.data }], guard := none }) (v := ?_) rfl (by kernel_rfl) (by kernel_rfl) (by kernel_rfl) (by kernel_rfl) (fun _ _ _ h => h) (Or.inl ⟨rfl, ?_⟩) (by assumption) ?_
          rotate_left
          · intro wz hSw; (try dsimp only at hSw); go_simp; try (with_reducible rfl)
          try simp only [Act.put, List.setIfInBounds_toArray, List.set_cons_zero, List.set_cons_succ]
          refine tail_take (i := 8) (oi := { dst := some 111, op := Go.Op.load 4 (Go.Operand.tmp 110), type := 4, pos := "ref.go:82", after := #[{ on := 7, ground := Go.Ground.data }], guard := none }) (v := ?_) rfl (by kernel_rfl) (by kernel_rfl) (by kernel_rfl) (by kernel_rfl) (fun _ _ _ h => h) (Or.inl ⟨rfl, ?_⟩) (by assumption) ?_
          rotate_left
          · intro wz hSw; (try dsimp only at hSw); go_simp; try (with_reducible rfl)
          try simp only [Act.put, List.setIfInBounds_toArray, List.set_cons_zero, List.set_cons_succ]
          refine tail_take (i := 9) (oi := { dst := some 112, op := Go.Op.move (Go.Operand.tmp 111), type := 4, pos := "ref.go:82", after := #[{ on := 8, ground := Go.Ground.data }], guard := none }) (v := ?_) rfl (by kernel_rfl) (by kernel_rfl) (by kernel_rfl) (by kernel_rfl) (fun _ _ _ h => h) (Or.inl ⟨rfl, ?_⟩) (by assumption) ?_
          rotate_left
          · intro wz hSw; (try dsimp only at hSw); go_simp; try (with_reducible rfl)
          try simp only [Act.put, List.setIfInBounds_toArray, List.set_cons_zero, List.set_cons_succ]
          refine tail_take (i := 10) (oi := { dst := some 113, op := Go.Op.move (Go.Operand.tmp 5), type := 70, pos := "ref.go:82", after := #[{ on := 9, ground := Go.Ground.guard }], guard := some (9, true) }) (v := undef) rfl (by kernel_rfl) (by kernel_rfl) (by kernel_rfl) (by kernel_rfl) (fun _ _ _ h => h) (Or.inr ⟨rfl, rfl⟩) (by assumption) ?_
          try simp only [Act.put, List.setIfInBounds_toArray, List.set_cons_zero, List.set_cons_succ]
          refine tail_take (i := 11) (oi := { dst := some 114, op := Go.Op.move (Go.Operand.tmp 8), type := 3, pos := "ref.go:82", after := #[{ on := 9, ground := Go.Ground.guard }], guard := some (9, true) }) (v := undef) rfl (by kernel_rfl) (by kernel_rfl) (by kernel_rfl) (by kernel_rfl) (fun _ _ _ h => h) (Or.inr ⟨rfl, rfl⟩) (by assumption) ?_
          try simp only [Act.put, List.setIfInBounds_toArray, List.set_cons_zero, List.set_cons_succ]
          refine tail_take (i := 12) (oi := { dst := some 115, op := Go.Op.binOp Go.BinOp.sub 3 (Go.Operand.tmp 114) (Go.Operand.const (Go.Value.int Go.IntKind.i64 1)) 3, type := 3, pos := "ref.go:82", after := #[{ on := 11, ground := Go.Ground.data }, { on := 9, ground := Go.Ground.guard }], guard := some (9, true) }) (v := undef) rfl (by kernel_rfl) (by kernel_rfl) (by kernel_rfl) (by kernel_rfl) (fun _ _ _ h => h) (Or.inr ⟨rfl, rfl⟩) (by assumption) ?_
          try simp only [Act.put, List.setIfInBounds_toArray, List.set_cons_zero, List.set_cons_succ]
          refine tail_take (i := 13) (oi := { dst := some 116, op := Go.Op.indexAddr 70 (Go.Operand.tmp 113) (Go.Operand.tmp 115), type := 0, pos := "ref.go:82", after := #[{ on := 10, ground := Go.Ground.data }, { on := 12, ground := Go.Ground.data }, { on := 9, ground := Go.Ground.guard }], guard := some (9, true) }) (v := undef) rfl (by kernel_rfl) (by kernel_rfl) (by kernel_rfl) (by kernel_rfl) (fun _ _ _ h => h) (Or.inr ⟨rfl, rfl⟩) (by assumption) ?_
          try simp only [Act.put, List.setIfInBounds_toArray, List.set_cons_zero, List.set_cons_succ]
          refine tail_take (i := 14) (oi := { dst := some 117, op := Go.Op.load 4 (Go.Operand.tmp 116), type := 4, pos := "ref.go:82", after := #[{ on := 13, ground := Go.Ground.data }, { on := 9, ground := Go.Ground.guard }], guard := some (9, true) }) (v := undef) rfl (by kernel_rfl) (by kernel_rfl) (by kernel_rfl) (by kernel_rfl) (fun _ _ _ h => h) (Or.inr ⟨rfl, rfl⟩) (by assumption) ?_
          try simp only [Act.put, List.setIfInBounds_toArray, List.set_cons_zero, List.set_cons_succ]
          refine tail_take (i := 15) (oi := { dst := some 118, op := Go.Op.pick (Go.Operand.tmp 112) (Go.Operand.tmp 117) (Go.Operand.const (Go.Value.bool false)), type := 4, pos := "ref.go:82", after := #[{ on := 9, ground := Go.Ground.data }, { on := 14, ground := Go.Ground.data }], guard := none }) (v := ?_) rfl (by kernel_rfl) (by kernel_rfl) (by kernel_rfl) (by kernel_rfl) (fun _ _ _ h => h) (Or.inl ⟨rfl, ?_⟩) (by assumption) ?_
          rotate_left
          · intro wz hSw; (try dsimp only at hSw); go_simp; try (with_reducible rfl)
          try simp only [Act.put, List.setIfInBounds_toArray, List.set_cons_zero, List.set_cons_succ]
          refine tail_call (i := 16) (o := { dst := some 119, op := Go.Op.buildSlice 70 1 #[(0, Go.Operand.tmp 118)], type := 70, pos := "ref.go:82", after := #[{ on := 15, ground := Go.Ground.data }], guard := none }) (by kernel_rfl) (by kernel_rfl) rfl (fun K hK => ?_)
          go_simp
          have hb1 : Below W1.heap.size W1 (W1.alloc (.cells #[.bool false] 4)).drew := below_drewish2 ((Below.refl W1.heap.size W1).alloc (Nat.le_refl _) _)
          replace c0 := (hb1.cell (p := ⟨g, q, none⟩) hgl').trans c0
          replace c1 := (hb1.cell (p := ⟨g, q + 1, none⟩) hgl').trans c1
          have HR1 : Hid (RowAt cellsB 1 (W1.alloc (.cells #[.bool false] 4)).drew (W1.heap.size + 1) (some ⟨W1.heap.size, 0, none⟩) 1 [false]) := one_row rowB (heap_alloc_new W1 _)
          have HO1 := Lib.hid (rown_below HO.out hb1)
          have HB1 := Lib.hid (HB.out.trans (hb1.mono HB.out.size))
          clear hb1
          generalize (W1.alloc (.cells #[.bool false] 4)).drew = u2 at *
          refine hK.out _ _ ⟨c0, c1⟩ (fun hHeld => ?_)
          clear hK K
          try simp only [Act.put, List.setIfInBounds_toArray, List.set_cons_zero, List.set_cons_succ]
          refine tail_enter ?_
          refine rest_step (k := 17) (o := { dst := some 120, op := Go.Op.call { callee := Go.Callee.builtin Go.Builtin.append, args := #[Go.Operand.tmp 106, Go.Operand.tmp 119], argTypes := #[70, 70] }, type := 70, pos := "ref.go:82", after := #[{ on := 3, ground := Go.Ground.data }, { on := 16, ground := Go.Ground.data }, { on := 9, ground := Go.Ground.chain }], guard := none }) (by kernel_rfl) (by kernel_rfl) rfl (fun K hK => ?_)
          refine step_append_row rowB (B := w2.heap.size) (v := .slice (some ⟨g, 0, none⟩) q cv) (n := q) (zs := ts.take q) (m := 1) (ys := [false]) (by rfl) _ _ (by rfl) (by rfl) (own_take HO1.out (by omega)) (by rfl) HR1.out (by omega) (by exact HB1.out.size) ?_
          intro A3 c3 w3 hown3 hg3 hat3
          have HB3 := Lib.hid (HB1.out.grown hg3 HB1.out.size (fun g e => (HGX.out g e).1))
          have HO3 := Lib.hid hown3
          clear hown3 hg3 hat3 hHeld
          refine hK.out _ _ ?_
          clear hK K
          try simp only [Act.put, List.setIfInBounds_toArray, List.set_cons_zero, List.set_cons_succ]
          refine rest_step (k := 18) (o := { dst := some 5, op := Go.Op.assign (Go.Operand.tmp 120), type := 70, pos := "ref.go:82", after := #[{ on := 17, ground := Go.Ground.data }, { on := 17, ground := Go.Ground.chain }, { on := 0, ground := Go.Ground.phase }, { on := 1, ground := Go.Ground.phase }, { on := 2, ground := Go.Ground.phase }, { on := 3, ground := Go.Ground.phase }, { on := 4, ground := Go.Ground.phase }, { on := 5, ground := Go.Ground.phase }, { on := 6, ground := Go.Ground.phase }, { on := 7, ground := Go.Ground.phase }, { on := 8, ground := Go.Ground.phase }, { on := 9, ground := Go.Ground.phase }, { on := 10, ground := Go.Ground.phase }, { on := 11, ground := Go.Ground.phase }, { on := 12, ground := Go.Ground.phase }, { on := 13, ground := Go.Ground.phase }, { on := 14, ground := Go.Ground.phase }, { on := 15, ground := Go.Ground.phase }, { on := 16, ground := Go.Ground.phase }, { on := 17, ground := Go.Ground.phase }], guard := none }) (by kernel_rfl) (by kernel_rfl) rfl (fun K hK => ?_)
          go_simp
          refine hK.out _ _ ?_
          clear hK K
          try simp only [Act.put, List.setIfInBounds_toArray, List.set_cons_zero, List.set_cons_succ]
          refine rest_done (by kernel_rfl) ?_
          have HC3 : Hid (HalfH px py rs w2 (k + 1) A3 (q + 1) c3 w3) := HNX.out _ _ _ _ (by rw [HST.out, List.length_append, List.length_take, List.length_singleton, HLQ.out]; omega) (by rw [HST.out]; exact HO3.out) HB3.out
          go_wp2
          go_roundw
          case rel => exact ⟨k + 1, q + 1, A3, c3, by omega, by go_num, rfl, HC3⟩
          case measure => simp [intOf]; omega
        · skip
          refine tail_begin (S := fun w' => w'.cell? ⟨g, q, none⟩ = some (.bool true) ∧ w'.cell? ⟨g, q + 1, none⟩ = some (.bool b1)) 17 (by kernel_rfl) ⟨c0, c1⟩ (fun hHeld => ?_)
          refine tail_take (i := 0) (oi := { dst := some 103, op := Go.Op.move (Go.Operand.tmp 5), type := 70, pos := "ref.go:82", after := #[], guard := none }) (v := ?_) rfl (by kernel_rfl) (by kernel_rfl) (by kernel_rfl) (by kernel_rfl) (fun _ _ _ h => h) (Or.inl ⟨rfl, ?_⟩) (by assumption) ?_
          rotate_left
          · intro wz hSw; (try dsimp only at hSw); go_simp; try (with_reducible rfl)
          try simp only [Act.put, List.setIfInBounds_toArray, List.set_cons_zero, List.set_cons_succ]
          refine tail_take (i := 1) (oi := { dst := some 104, op := Go.Op.move (Go.Operand.tmp 8), type := 3, pos := "ref.go:82", after := #[], guard := none }) (v := ?_) rfl (by kernel_rfl) (by kernel_rfl) (by kernel_rfl) (by kernel_rfl) (fun _ _ _ h => h) (Or.inl ⟨rfl, ?_⟩) (by assumption) ?_
          rotate_left
          · intro wz hSw; (try dsimp only at hSw); go_simp; try (with_reducible rfl)
          try simp only [Act.put, List.setIfInBounds_toArray, List.set_cons_zero, List.set_cons_succ]
          refine tail_take (i := 2) (oi := { dst := some 105, op := Go.Op.binOp Go.BinOp.sub 3 (Go.Operand.tmp 104) (Go.Operand.const (Go.Value.int Go.IntKind.i64 2)) 3, type := 3, pos := "ref.go:82", after := #[{ on := 1, ground := Go.Ground.data }], guard := none }) (v := ?_) rfl (by kernel_rfl) (by kernel_rfl) (by kernel_rfl) (by kernel_rfl) (fun _ _ _ h => h) (Or.inl ⟨rfl, ?_⟩) (by assumption) ?_
          rotate_left
          · intro wz hSw; (try dsimp only at hSw); go_simp; try (with_reducible rfl)
          try simp only [Act.put, List.setIfInBounds_toArray, List.set_cons_zero, List.set_cons_succ]
          refine tail_take (i := 3) (oi := { dst := some 106, op := Go.Op.slice 70 (Go.Operand.tmp 103) none (some (Go.Operand.tmp 105)) none, type := 70, pos := "ref.go:82", after := #[{ on := 0, ground := Go.Ground.data }, { on := 2, ground := Go.Ground.data }], guard := none }) (v := ?_) rfl (by kernel_rfl) (by kernel_rfl) (by kernel_rfl) (by kernel_rfl) (fun _ _ _ h => h) (Or.inl ⟨rfl, ?_⟩) (by assumption) ?_
          rotate_left
          · intro wz hSw; (try dsimp only at hSw); go_simp; try (with_reducible rfl)
          try simp only [Act.put, List.setIfInBounds_toArray, List.set_cons_zero, List.set_cons_succ]
          refine tail_take (i := 4) (oi := { dst := some 107, op := Go.Op.move (Go.Operand.tmp 5), type := 70, pos := "ref.go:82", after := #[], guard := none }) (v := ?_) rfl (by kernel_rfl) (by kernel_rfl) (by kernel_rfl) (by kernel_rfl) (fun _ _ _ h => h) (Or.inl ⟨rfl, ?_⟩) (by assumption) ?_
          rotate_left
          · intro wz hSw; (try dsimp only at hSw); go_simp; try (with_reducible rfl)
          try simp only [Act.put, List.setIfInBounds_toArray, List.set_cons_zero, List.set_cons_succ]
          refine tail_take (i := 5) (oi := { dst := some 108, op := Go.Op.move (Go.Operand.tmp 8), type := 3, pos := "ref.go:82", after := #[], guard := none }) (v := ?_) rfl (by kernel_rfl) (by kernel_rfl) (by kernel_rfl) (by kernel_rfl) (fun _ _ _ h => h) (Or.inl ⟨rfl, ?_⟩) (by assumption) ?_
          rotate_left
          · intro wz hSw; (try dsimp only at hSw); go_simp; try (with_reducible rfl)
          try simp only [Act.put, List.setIfInBounds_toArray, List.set_cons_zero, List.set_cons_succ]
          refine tail_take (i := 6) (oi := { dst := some 109, op := Go.Op.binOp Go.BinOp.sub 3 (Go.Operand.tmp 108) (Go.Operand.const (Go.Value.int Go.IntKind.i64 2)) 3, type := 3, pos := "ref.go:82", after := #[{ on := 5, ground := Go.Ground.data }], guard := none }) (v := ?_) rfl (by kernel_rfl) (by kernel_rfl) (by kernel_rfl) (by kernel_rfl) (fun _ _ _ h => h) (Or.inl ⟨rfl, ?_⟩) (by assumption) ?_
          rotate_left
          · intro wz hSw; (try dsimp only at hSw); go_simp; try (with_reducible rfl)
          try simp only [Act.put, List.setIfInBounds_toArray, List.set_cons_zero, List.set_cons_succ]
          refine tail_take (i := 7) (oi := { dst := some 110, op := Go.Op.indexAddr 70 (Go.Operand.tmp 107) (Go.Operand.tmp 109), type := 0, pos := "ref.go:82", after := #[{ on := 4, ground := Go.Ground.data }, { on := 6, ground := Go.Ground.data }], guard := none }) (v := ?_) rfl (by kernel_rfl) (by kernel_rfl) (by kernel_rfl) (by kernel_rfl) (fun _ _ _ h => h) (Or.inl ⟨rfl, ?_⟩) (by assumption) ?_
          rotate_left
          · intro wz hSw; (try dsimp only at hSw); go_simp; try (with_reducible rfl)
          try simp only [Act.put, List.setIfInBounds_toArray, List.set_cons_zero, List.set_cons_succ]
          refine tail_take (i := 8) (oi := { dst := some 111, op := Go.Op.load 4 (Go.Operand.tmp 110), type := 4, pos := "ref.go:82", after := #[{ on := 7, ground := Go.Ground.data }], guard := none }) (v := ?_) rfl (by kernel_rfl) (by kernel_rfl) (by kernel_rfl) (by kernel_rfl) (fun _ _ _ h => h) (Or.inl ⟨rfl, ?_⟩) (by assumption) ?_
          rotate_left
          · intro wz hSw; (try dsimp only at hSw); go_simp; try (with_reducible rfl)
          try simp only [Act.put, List.setIfInBounds_toArray, List.set_cons_zero, List.set_cons_succ]
          refine tail_take (i := 9) (oi := { dst := some 112, op := Go.Op.move (Go.Operand.tmp 111), type := 4, pos := "ref.go:82", after := #[{ on := 8, ground := Go.Ground.data }], guard := none }) (v := ?_) rfl (by kernel_rfl) (by kernel_rfl) (by kernel_rfl) (by kernel_rfl) (fun _ _ _ h => h) (Or.inl ⟨rfl, ?_⟩) (by assumption) ?_
          rotate_left
          · intro wz hSw; (try dsimp only at hSw); go_simp; try (with_reducible rfl)
          try simp only [Act.put, List.setIfInBounds_toArray, List.set_cons_zero, List.set_cons_succ]
          refine tail_take (i := 10) (oi := { dst := some 113, op := Go.Op.move (Go.Operand.tmp 5), type := 70, pos := "ref.go:82", after := #[{ on := 9, ground := Go.Ground.guard }], guard := some (9, true) }) (v := ?_) rfl (by kernel_rfl) (by kernel_rfl) (by kernel_rfl) (by kernel_rfl) (fun _ _ _ h => h) (Or.inl ⟨rfl, ?_⟩) (by assumption) ?_
          rotate_left
          · intro wz hSw; (try dsimp only at hSw); go_simp; try (with_reducible rfl)
          try simp only [Act.put, List.setIfInBounds_toArray, List.set_cons_zero, List.set_cons_succ]
          refine tail_take (i := 11) (oi := { dst := some 114, op := Go.Op.move (Go.Operand.tmp 8), type := 3, pos := "ref.go:82", after := #[{ on := 9, ground := Go.Ground.guard }], guard := some (9, true) }) (v := ?_) rfl (by kernel_rfl) (by kernel_rfl) (by kernel_rfl) (by kernel_rfl) (fun _ _ _ h => h) (Or.inl ⟨rfl, ?_⟩) (by assumption) ?_
          rotate_left
          · intro wz hSw; (try dsimp only at hSw); go_simp; try (with_reducible rfl)
          try simp only [Act.put, List.setIfInBounds_toArray, List.set_cons_zero, List.set_cons_succ]
          refine tail_take (i := 12) (oi := { dst := some 115, op := Go.Op.binOp Go.BinOp.sub 3 (Go.Operand.tmp 114) (Go.Operand.const (Go.Value.int Go.IntKind.i64 1)) 3, type := 3, pos := "ref.go:82", after := #[{ on := 11, ground := Go.Ground.data }, { on := 9, ground := Go.Ground.guard }], guard := some (9, true) }) (v := ?_) rfl (by kernel_rfl) (by kernel_rfl) (by kernel_rfl) (by kernel_rfl) (fun _ _ _ h => h) (Or.inl ⟨rfl, ?_⟩) (by assumption) ?_
          rotate_left
          · intro wz hSw; (try dsimp only at hSw); go_simp; try (with_reducible rfl)
          try simp only [Act.put, List.setIfInBounds_toArray, List.set_cons_zero, List.set_cons_succ]
          refine tail_take (i := 13) (oi := { dst := some 116, op := Go.Op.indexAddr 70 (Go.Operand.tmp 113) (Go.Operand.tmp 115), type := 0, pos := "ref.go:82", after := #[{ on := 10, ground := Go.Ground.data }, { on := 12, ground := Go.Ground.data }, { on := 9, ground := Go.Ground.guard }], guard := some (9, true) }) (v := ?_) rfl (by kernel_rfl) (by kernel_rfl) (by kernel_rfl) (by kernel_rfl) (fun _ _ _ h => h) (Or.inl ⟨rfl, ?_⟩) (by assumption) ?_
          rotate_left
          · intro wz hSw; (try dsimp only at hSw); go_simp; try (with_reducible rfl)
          try simp only [Act.put, List.setIfInBounds_toArray, List.set_cons_zero, List.set_cons_succ]
          refine tail_take (i := 14) (oi := { dst := some 117, op := Go.Op.load 4 (Go.Operand.tmp 116), type := 4, pos := "ref.go:82", after := #[{ on := 13, ground := Go.Ground.data }, { on := 9, ground := Go.Ground.guard }], guard := some (9, true) }) (v := ?_) rfl (by kernel_rfl) (by kernel_rfl) (by kernel_rfl) (by kernel_rfl) (fun _ _ _ h => h) (Or.inl ⟨rfl, ?_⟩) (by assumption) ?_
          rotate_left
          · intro wz hSw; (try dsimp only at hSw); go_simp; try (with_reducible rfl)
          try simp only [Act.put, List.setIfInBounds_toArray, List.set_cons_zero, List.set_cons_succ]
          refine tail_take (i := 15) (oi := { dst := some 118, op := Go.Op.pick (Go.Operand.tmp 112) (Go.Operand.tmp 117) (Go.Operand.const (Go.Value.bool false)), type := 4, pos := "ref.go:82", after := #[{ on := 9, ground := Go.Ground.data }, { on := 14, ground := Go.Ground.data }], guard := none }) (v := ?_) rfl (by kernel_rfl) (by kernel_rfl) (by kernel_rfl) (by kernel_rfl) (fun _ _ _ h => h) (Or.inl ⟨rfl, ?_⟩) (by assumption) ?_
          rotate_left
          · intro wz hSw; (try dsimp only at hSw); go_simp; try (with_reducible rfl)
          try simp only [Act.put, List.setIfInBounds_toArray, List.set_cons_zero, List.set_cons_succ]
          refine tail_call (i := 16) (o := { dst := some 119, op := Go.Op.buildSlice 70 1 #[(0, Go.Operand.tmp 118)], type := 70, pos := "ref.go:82", after := #[{ on := 15, ground := Go.Ground.data }], guard := none }) (by kernel_rfl) (by kernel_rfl) rfl (fun K hK => ?_)
          go_simp
          have hb1 : Below W1.heap.size W1 (W1.alloc (.cells #[.bool b1] 4)).drew := below_drewish2 ((Below.refl W1.heap.size W1).alloc (Nat.le_refl _) _)
          replace c0 := (hb1.cell (p := ⟨g, q, none⟩) hgl').trans c0
          replace c1 := (hb1.cell (p := ⟨g, q + 1, none⟩) hgl').trans c1
          have HR1 : Hid (RowAt cellsB 1 (W1.alloc (.cells #[.bool b1] 4)).drew (W1.heap.size + 1) (some ⟨W1.heap.size, 0, none⟩) 1 [b1]) := one_row rowB (heap_alloc_new W1 _)
          have HO1 := Lib.hid (rown_below HO.out hb1)
          have HB1 := Lib.hid (HB.out.trans (hb1.mono HB.out.size))
          clear hb1
          generalize (W1.alloc (.cells #[.bool b1] 4)).drew = u2 at *
          refine hK.out _ _ ⟨c0, c1⟩ (fun hHeld => ?_)
          clear hK K
          try simp only [Act.put, List.setIfInBounds_toArray, List.set_cons_zero, List.set_cons_succ]
          refine tail_enter ?_
          refine rest_step (k := 17) (o := { dst := some 120, op := Go.Op.call { callee := Go.Callee.builtin Go.Builtin.append, args := #[Go.Operand.tmp 106, Go.Operand.tmp 119], argTypes := #[70, 70] }, type := 70, pos := "ref.go:82", after := #[{ on := 3, ground := Go.Ground.data }, { on := 16, ground := Go.Ground.data }, { on := 9, ground := Go.Ground.chain }], guard := none }) (by kernel_rfl) (by kernel_rfl) rfl (fun K hK => ?_)
          refine step_append_row rowB (B := w2.heap.size) (v := .slice (some ⟨g, 0, none⟩) q cv) (n := q) (zs := ts.take q) (m := 1) (ys := [b1]) (by rfl) _ _ (by rfl) (by rfl) (own_take HO1.out (by omega)) (by rfl) HR1.out (by omega) (by exact HB1.out.size) ?_
          intro A3 c3 w3 hown3 hg3 hat3
          have HB3 := Lib.hid (HB1.out.grown hg3 HB1.out.size (fun g e => (HGX.out g e).1))
          have HO3 := Lib.hid hown3
          clear hown3 hg3 hat3 hHeld
          refine hK.out _ _ ?_
          clear hK K
          try simp only [Act.put, List.setIfInBounds_toArray, List.set_cons_zero, List.set_cons_succ]
          refine rest_step (k := 18) (o := { dst := some 5, op := Go.Op.assign (Go.Operand.tmp 120), type := 70, pos := "ref.go:82", after := #[{ on := 17, ground := Go.Ground.data }, { on := 17, ground := Go.Ground.chain }, { on := 0, ground := Go.Ground.phase }, { on := 1, ground := Go.Ground.phase }, { on := 2, ground := Go.Ground.phase }, { on := 3, ground := Go.Ground.phase }, { on := 4, ground := Go.Ground.phase }, { on := 5, ground := Go.Ground.phase }, { on := 6, ground := Go.Ground.phase }, { on := 7, ground := Go.Ground.phase }, { on := 8, ground := Go.Ground.phase }, { on := 9, ground := Go.Ground.phase }, { on := 10, ground := Go.Ground.phase }, { on := 11, ground := Go.Ground.phase }, { on := 12, ground := Go.Ground.phase }, { on := 13, ground := Go.Ground.phase }, { on := 14, ground := Go.Ground.phase }, { on := 15, ground := Go.Ground.phase }, { on := 16, ground := Go.Ground.phase }, { on := 17, ground := Go.Ground.phase }], guard := none }) (by kernel_rfl) (by kernel_rfl) rfl (fun K hK => ?_)
          go_simp
          refine hK.out _ _ ?_
          clear hK K
          try simp only [Act.put, List.setIfInBounds_toArray, List.set_cons_zero, List.set_cons_succ]
          refine rest_done (by kernel_rfl) ?_
          have HC3 : Hid (HalfH px py rs w2 (k + 1) A3 (q + 1) c3 w3) := HNX.out _ _ _ _ (by rw [HST.out, List.length_append, List.length_take, List.length_singleton, HLQ.out]; omega) (by rw [HST.out]; exact HO3.out) HB3.out
          go_wp2
          go_roundw
          case rel => exact ⟨k + 1, q + 1, A3, c3, by omega, by go_num, rfl, HC3⟩
          case measure => simp [intOf]; omega
      by_cases h6 : op = 6
      · subst h6
        have hL2 : 1 < L := by have : takesF 6 = 2 := rfl; omega
        obtain ⟨q, rfl⟩ : ∃ q, L = q + 2 := ⟨L - 2, by omega⟩
        obtain ⟨g, o, rfl, hgl, c0⟩ := bool_at (own_row rowB HO.out) (k := q) (by omega)
        obtain ⟨g', o', e', _, c1⟩ := bool_at (own_row rowB HO.out) (k := q + 1) (by omega)
        obtain rfl : o = 0 := by
          obtain ⟨g', cap', e, _⟩ := HO.out.form (by omega)
          injection e with e
          injection e with e
          injection e
        obtain ⟨rfl, rfl⟩ : g = g' ∧ 0 = o' := by injection e' with e'; injection e' with e1 e2; exact ⟨e1, e2⟩
        rw [Nat.zero_add] at c0 c1
        have hst : stepH px py ts ⟨6, x, y, z⟩ = ts.take q ++ [ts.getD q false || ts.getD (q + 1) false] := by
          unfold stepH
          simp only
          rw [show (takesF 6).toNat = 2 from rfl, ← HLL.out, show q + 2 - 2 = q by omega]
          congr 1
          show [(ts.drop q).getD 0 false || (ts.drop q).getD 1 false] = _
          simp only [List.getD_eq_getElem?_getD, List.getElem?_drop, Nat.add_zero]
        have HST := Lib.hid hst
        have HLQ : Hid (ts.length = q + 2) := HLL.out.symm
        generalize ts.getD q false = b0 at *
        generalize ts.getD (q + 1) false = b1 at *
        have hi2 : ((q + 2 : Nat) : Int) - 2 = (q : Int) := by omega
        have hi3 : ((q + 2 : Nat) : Int) - 1 = ((q + 1 : Nat) : Int) := by omega
        have hqc : q ≤ cv := by omega
        have hq2 : q < q + 2 := by omega
        have hq3 : q + 1 < q + 2 := by omega
        have HGX := Lib.hid (HX.out q (by omega))
        have hgl' : g < W1.heap.size := hgl
        have hL32 : q + 2 ≤ 32 := hLk
        have hwq : IntKind.i64.wrap (q : Int) = (q : Int) := IntWalk.i64_in _ (by omega)
        have hwq1 : IntKind.i64.wrap ((q : Int) + 1) = (q : Int) + 1 := IntWalk.i64_in _ (by omega)
        have hwq2 : IntKind.i64.wrap ((q : Int) + 2 - 1) = (q : Int) + 1 := by rw [show (q : Int) + 2 - 1 = (q : Int) + 1 by omega]; exact IntWalk.i64_in _ (by omega)
        have h0q : (0 : Int) ≤ (q : Int) := by omega
        have h0q1 : (0 : Int) ≤ (q : Int) + 1 := by omega
        have hqcv : (q : Int) ≤ (cv : Int) := by omega
        have hqi2 : (q : Int) < (q : Int) + 2 := by omega
        have hqi1 : (q : Int) + 1 < (q : Int) + 2 := by omega
        have htn : ((q : Int) + 1).toNat = q + 1 := by omega
        clear hst e' hgl
        go_upto_region 21 with fail
        have hW : W1.heap.size = W1.heap.size := rfl
        cases b0
        · skip
          refine tail_begin (S := fun w' => w'.cell? ⟨g, q, none⟩ = some (.bool false) ∧ w'.cell? ⟨g, q + 1, none⟩ = some (.bool b1)) 17 (by kernel_rfl) ⟨c0, c1⟩ (fun hHeld => ?_)
          refine tail_take (i := 0) (oi := { dst := some 123, op := Go.Op.move (Go.Operand.tmp 5), type := 70, pos := "ref.go:84", after := #[], guard := none }) (v := ?_) rfl (by kernel_rfl) (by kernel_rfl) (by kernel_rfl) (by kernel_rfl) (fun _ _ _ h => h) (Or.inl ⟨rfl, ?_⟩) (by assumption) ?_
          rotate_left
          · intro wz hSw; (try dsimp only at hSw); go_simp; try (with_reducible rfl)
          try simp only [Act.put, List.setIfInBounds_toArray, List.set_cons_zero, List.set_cons_succ]
          refine tail_take (i := 1) (oi := { dst := some 124, op := Go.Op.move (Go.Operand.tmp 8), type := 3, pos := "ref.go:84", after := #[], guard := none }) (v := ?_) rfl (by kernel_rfl) (by kernel_rfl) (by kernel_rfl) (by kernel_rfl) (fun _ _ _ h => h) (Or.inl ⟨rfl, ?_⟩) (by assumption) ?_
          rotate_left
          · intro wz hSw; (try dsimp only at hSw); go_simp; try (with_reducible rfl)
          try simp only [Act.put, List.setIfInBounds_toArray, List.set_cons_zero, List.set_cons_succ]
          refine tail_take (i := 2) (oi := { dst := some 125, op := Go.Op.binOp Go.BinOp.sub 3 (Go.Operand.tmp 124) (Go.Operand.const (Go.Value.int Go.IntKind.i64 2)) 3, type := 3, pos := "ref.go:84", after := #[{ on := 1, ground := Go.Ground.data }], guard := none }) (v := ?_) rfl (by kernel_rfl) (by kernel_rfl) (by kernel_rfl) (by kernel_rfl) (fun _ _ _ h => h) (Or.inl ⟨rfl, ?_⟩) (by assumption) ?_
          rotate_left
          · intro wz hSw; (try dsimp only at hSw); go_simp; try (with_reducible rfl)
          try simp only [Act.put, List.setIfInBounds_toArray, List.set_cons_zero, List.set_cons_succ]
          refine tail_take (i := 3) (oi := { dst := some 126, op := Go.Op.slice 70 (Go.Operand.tmp 123) none (some (Go.Operand.tmp 125)) none, type := 70, pos := "ref.go:84", after := #[{ on := 0, ground := Go.Ground.data }, { on := 2, ground := Go.Ground.data }], guard := none }) (v := ?_) rfl (by kernel_rfl) (by kernel_rfl) (by kernel_rfl) (by kernel_rfl) (fun _ _ _ h => h) (Or.inl ⟨rfl, ?_⟩) (by assumption) ?_
          rotate_left
          · intro wz hSw; (try dsimp only at hSw); go_simp; try (with_reducible rfl)
          try simp only [Act.put, List.setIfInBounds_toArray, List.set_cons_zero, List.set_cons_succ]
          refine tail_take (i := 4) (oi := { dst := some 127, op := Go.Op.move (Go.Operand.tmp 5), type := 70, pos := "ref.go:84", after := #[], guard := none }) (v := ?_) rfl (by kernel_rfl) (by kernel_rfl) (by kernel_rfl) (by kernel_rfl) (fun _ _ _ h => h) (Or.inl ⟨rfl, ?_⟩) (by assumption) ?_
          rotate_left
          · intro wz hSw; (try dsimp only at hSw); go_simp; try (with_reducible rfl)
          try simp only [Act.put, List.setIfInBounds_toArray, List.set_cons_zero, List.set_cons_succ]
          refine tail_take (i := 5) (oi := { dst := some 128, op := Go.Op.move (Go.Operand.tmp 8), type := 3, pos := "ref.go:84", after := #[], guard := none }) (v := ?_) rfl (by kernel_rfl) (by kernel_rfl) (by kernel_rfl) (by kernel_rfl) (fun _ _ _ h => h) (Or.inl ⟨rfl, ?_⟩) (by assumption) ?_
          rotate_left
          · intro wz hSw; (try dsimp only at hSw); go_simp; try (with_reducible rfl)
          try simp only [Act.put, List.setIfInBounds_toArray, List.set_cons_zero, List.set_cons_succ]
          refine tail_take (i := 6) (oi := { dst := some 129, op := Go.Op.binOp Go.BinOp.sub 3 (Go.Operand.tmp 128) (Go.Operand.const (Go.Value.int Go.IntKind.i64 2)) 3, type := 3, pos := "ref.go:84", after := #[{ on := 5, ground := Go.Ground.data }], guard := none }) (v := ?_) rfl (by kernel_rfl) (by kernel_rfl) (by kernel_rfl) (by kernel_rfl) (fun _ _ _ h => h) (Or.inl ⟨rfl, ?_⟩) (by assumption) ?_
          rotate_left
          · intro wz hSw; (try dsimp only at hSw); go_simp; try (with_reducible rfl)
          try simp only [Act.put, List.setIfInBounds_toArray, List.set_cons_zero, List.set_cons_succ]
          refine tail_take (i := 7) (oi := { dst := some 130, op := Go.Op.indexAddr 70 (Go.Operand.tmp 127) (Go.Operand.tmp 129), type := 0, pos := "ref.go:84", after := #[{ on := 4, ground := Go.Ground.data }, { on := 6, ground := Go.Ground.data }], guard := none }) (v := ?_) rfl (by kernel_rfl) (by kernel_rfl) (by kernel_rfl) (by kernel_rfl) (fun _ _ _ h => h) (Or.inl ⟨rfl, ?_⟩) (by assumption) ?_
          rotate_left
          · intro wz hSw; (try dsimp only at hSw); go_simp; try (with_reducible rfl)
          try simp only [Act.put, List.setIfInBounds_toArray, List.set_cons_zero, List.set_cons_succ]
          refine tail_take (i := 8) (oi := { dst := some 131, op := Go.Op.load 4 (Go.Operand.tmp 130), type := 4, pos := "ref.go:84", after := #[{ on := 7, ground := Go.Ground.data }], guard := none }) (v := ?_) rfl (by kernel_rfl) (by kernel_rfl) (by kernel_rfl) (by kernel_rfl) (fun _ _ _ h => h) (Or.inl ⟨rfl, ?_⟩) (by assumption) ?_
          rotate_left
          · intro wz hSw; (try dsimp only at hSw); go_simp; try (with_reducible rfl)
          try simp only [Act.put, List.setIfInBounds_toArray, List.set_cons_zero, List.set_cons_succ]
          refine tail_take (i := 9) (oi := { dst := some 132, op := Go.Op.move (Go.Operand.tmp 131), type := 4, pos := "ref.go:84", after := #[{ on := 8, ground := Go.Ground.data }], guard := none }) (v := ?_) rfl (by kernel_rfl) (by kernel_rfl) (by kernel_rfl) (by kernel_rfl) (fun _ _ _ h => h) (Or.inl ⟨rfl, ?_⟩) (by assumption) ?_
          rotate_left
          · intro wz hSw; (try dsimp only at hSw); go_simp; try (with_reducible rfl)
          try simp only [Act.put, List.setIfInBounds_toArray, List.set_cons_zero, List.set_cons_succ]
          refine tail_take (i := 10) (oi := { dst := some 133, op := Go.Op.move (Go.Operand.tmp 5), type := 70, pos := "ref.go:84", after := #[{ on := 9, ground := Go.Ground.guard }], guard := some (9, false) }) (v := ?_) rfl (by kernel_rfl) (by kernel_rfl) (by kernel_rfl) (by kernel_rfl) (fun _ _ _ h => h) (Or.inl ⟨rfl, ?_⟩) (by assumption) ?_
          rotate_left
          · intro wz hSw; (try dsimp only at hSw); go_simp; try (with_reducible rfl)
          try simp only [Act.put, List.setIfInBounds_toArray, List.set_cons_zero, List.set_cons_succ]
          refine tail_take (i := 11) (oi := { dst := some 134, op := Go.Op.move (Go.Operand.tmp 8), type := 3, pos := "ref.go:84", after := #[{ on := 9, ground := Go.Ground.guard }], guard := some (9, false) }) (v := ?_) rfl (by kernel_rfl) (by kernel_rfl) (by kernel_rfl) (by kernel_rfl) (fun _ _ _ h => h) (Or.inl ⟨rfl, ?_⟩) (by assumption) ?_
          rotate_left
          · intro wz hSw; (try dsimp only at hSw); go_simp; try (with_reducible rfl)
          try simp only [Act.put, List.setIfInBounds_toArray, List.set_cons_zero, List.set_cons_succ]
          refine tail_take (i := 12) (oi := { dst := some 135, op := Go.Op.binOp Go.BinOp.sub 3 (Go.Operand.tmp 134) (Go.Operand.const (Go.Value.int Go.IntKind.i64 1)) 3, type := 3, pos := "ref.go:84", after := #[{ on := 11, ground := Go.Ground.data }, { on := 9, ground := Go.Ground.guard }], guard := some (9, false) }) (v := ?_) rfl (by kernel_rfl) (by kernel_rfl) (by kernel_rfl) (by kernel_rfl) (fun _ _ _ h => h) (Or.inl ⟨rfl, ?_⟩) (by assumption) ?_
          rotate_left
          · intro wz hSw; (try dsimp only at hSw); go_simp; try (with_reducible rfl)
          try simp only [Act.put, List.setIfInBounds_toArray, List.set_cons_zero, List.set_cons_succ]
          refine tail_take (i := 13) (oi := { dst := some 136, op := Go.Op.indexAddr 70 (Go.Operand.tmp 133) (Go.Operand.tmp 135), type := 0, pos := "ref.go:84", after := #[{ on := 10, ground := Go.Ground.data }, { on := 12, ground := Go.Ground.data }, { on := 9, ground := Go.Ground.guard }], guard := some (9, false) }) (v := ?_) rfl (by kernel_rfl) (by kernel_rfl) (by kernel_rfl) (by kernel_rfl) (fun _ _ _ h => h) (Or.inl ⟨rfl, ?_⟩) (by assumption) ?_
          rotate_left
          · intro wz hSw; (try dsimp only at hSw); go_simp; try (with_reducible rfl)
          try simp only [Act.put, List.setIfInBounds_toArray, List.set_cons_zero, List.set_cons_succ]
          refine tail_take (i := 14) (oi := { dst := some 137, op := Go.Op.load 4 (Go.Operand.tmp 136), type := 4, pos := "ref.go:84", after := #[{ on := 13, ground := Go.Ground.data }, { on := 9, ground := Go.Ground.guard }], guard := some (9, false) }) (v := ?_) rfl (by kernel_rfl) (by kernel_rfl) (by kernel_rfl) (by kernel_rfl) (fun _ _ _ h => h) (Or.inl ⟨rfl, ?_⟩) (by assumption) ?_
          rotate_left
          · intro wz hSw; (try dsimp only at hSw); go_simp; try (with_reducible rfl)
          try simp only [Act.put, List.setIfInBounds_toArray, List.set_cons_zero, List.set_cons_succ]
          refine tail_take (i := 15) (oi := { dst := some 138, op := Go.Op.pick (Go.Operand.tmp 132) (Go.Operand.const (Go.Value.bool true)) (Go.Operand.tmp 137), type := 4, pos := "ref.go:84", after := #[{ on := 9, ground := Go.Ground.data }, { on := 14, ground := Go.Ground.data }], guard := none }) (v := ?_) rfl (by kernel_rfl) (by kernel_rfl) (by kernel_rfl) (by kernel_rfl) (fun _ _ _ h => h) (Or.inl ⟨rfl, ?_⟩) (by assumption) ?_
          rotate_left
          · intro wz hSw; (try dsimp only at hSw); go_simp; try (with_reducible rfl)
          try simp only [Act.put, List.setIfInBounds_toArray, List.set_cons_zero, List.set_cons_succ]
          refine tail_call (i := 16) (o := { dst := some 139, op := Go.Op.buildSlice 70 1 #[(0, Go.Operand.tmp 138)], type := 70, pos := "ref.go:84", after := #[{ on := 15, ground := Go.Ground.data }], guard := none }) (by kernel_rfl) (by kernel_rfl) rfl (fun K hK => ?_)
          go_simp
          have hb1 : Below W1.heap.size W1 (W1.alloc (.cells #[.bool b1] 4)).drew := below_drewish2 ((Below.refl W1.heap.size W1).alloc (Nat.le_refl _) _)
          replace c0 := (hb1.cell (p := ⟨g, q, none⟩) hgl').trans c0
          replace c1 := (hb1.cell (p := ⟨g, q + 1, none⟩) hgl').trans c1
          have HR1 : Hid (RowAt cellsB 1 (W1.alloc (.cells #[.bool b1] 4)).drew (W1.heap.size + 1) (some ⟨W1.heap.size, 0, none⟩) 1 [b1]) := one_row rowB (heap_alloc_new W1 _)
          have HO1 := Lib.hid (rown_below HO.out hb1)
          have HB1 := Lib.hid (HB.out.trans (hb1.mono HB.out.size))
          clear hb1
          generalize (W1.alloc (.cells #[.bool b1] 4)).drew = u2 at *
          refine hK.out _ _ ⟨c0, c1⟩ (fun hHeld => ?_)
          clear hK K
          try simp only [Act.put, List.setIfInBounds_toArray, List.set_cons_zero, List.set_cons_succ]
          refine tail_enter ?_
          refine rest_step (k := 17) (o := { dst := some 140, op := Go.Op.call { callee := Go.Callee.builtin Go.Builtin.append, args := #[Go.Operand.tmp 126, Go.Operand.tmp 139], argTypes := #[70, 70] }, type := 70, pos := "ref.go:84", after := #[{ on := 3, ground := Go.Ground.data }, { on := 16, ground := Go.Ground.data }, { on := 9, ground := Go.Ground.chain }], guard := none }) (by kernel_rfl) (by kernel_rfl) rfl (fun K hK => ?_)
          refine step_append_row rowB (B := w2.heap.size) (v := .slice (some ⟨g, 0, none⟩) q cv) (n := q) (zs := ts.take q) (m := 1) (ys := [b1]) (by rfl) _ _ (by rfl) (by rfl) (own_take HO1.out (by omega)) (by rfl) HR1.out (by omega) (by exact HB1.out.size) ?_
          intro A3 c3 w3 hown3 hg3 hat3
          have HB3 := Lib.hid (HB1.out.grown hg3 HB1.out.size (fun g e => (HGX.out g e).1))
          have HO3 := Lib.hid hown3
          clear hown3 hg3 hat3 hHeld
          refine hK.out _ _ ?_
          clear hK K
          try simp only [Act.put, List.setIfInBounds_toArray, List.set_cons_zero, List.set_cons_succ]
          refine rest_step (k := 18) (o := { dst := some 5, op := Go.Op.assign (Go.Operand.tmp 140), type := 70, pos := "ref.go:84", after := #[{ on := 17, ground := Go.Ground.data }, { on := 17, ground := Go.Ground.chain }, { on := 0, ground := Go.Ground.phase }, { on := 1, ground := Go.Ground.phase }, { on := 2, ground := Go.Ground.phase }, { on := 3, ground := Go.Ground.phase }, { on := 4, ground := Go.Ground.phase }, { on := 5, ground := Go.Ground.phase }, { on := 6, ground := Go.Ground.phase }, { on := 7, ground := Go.Ground.phase }, { on := 8, ground := Go.Ground.phase }, { on := 9, ground := Go.Ground.phase }, { on := 10, ground := Go.Ground.phase }, { on := 11, ground := Go.Ground.phase }, { on := 12, ground := Go.Ground.phase }, { on := 13, ground := Go.Ground.phase }, { on := 14, ground := Go.Ground.phase }, { on := 15, ground := Go.Ground.phase }, { on := 16, ground := Go.Ground.phase }, { on := 17, ground := Go.Ground.phase }], guard := none }) (by kernel_rfl) (by kernel_rfl) rfl (fun K hK => ?_)
          go_simp
          refine hK.out _ _ ?_
          clear hK K
          try simp only [Act.put, List.setIfInBounds_toArray, List.set_cons_zero, List.set_cons_succ]
          refine rest_done (by kernel_rfl) ?_
          have HC3 : Hid (HalfH px py rs w2 (k + 1) A3 (q + 1) c3 w3) := HNX.out _ _ _ _ (by rw [HST.out, List.length_append, List.length_take, List.length_singleton, HLQ.out]; omega) (by rw [HST.out]; exact HO3.out) HB3.out
          go_wp2
          go_roundw
          case rel => exact ⟨k + 1, q + 1, A3, c3, by omega, by go_num, rfl, HC3⟩
          case measure => simp [intOf]; omega
        · skip
          refine tail_begin (S := fun w' => w'.cell? ⟨g, q, none⟩ = some (.bool true) ∧ w'.cell? ⟨g, q + 1, none⟩ = some (.bool b1)) 17 (by kernel_rfl) ⟨c0, c1⟩ (fun hHeld => ?_)
          refine tail_take (i := 0) (oi := { dst := some 123, op := Go.Op.move (Go.Operand.tmp 5), type := 70, pos := "ref.go:84", after := #[], guard := none }) (v := ?_) rfl (by kernel_rfl) (by kernel_rfl) (by kernel_rfl) (by kernel_rfl) (fun _ _ _ h => h) (Or.inl ⟨rfl, ?_⟩) (by assumption) ?_
          rotate_left
          · intro wz hSw; (try dsimp only at hSw); go_simp; try (with_reducible rfl)
          try simp only [Act.put, List.setIfInBounds_toArray, List.set_cons_zero, List.set_cons_succ]
          refine tail_take (i := 1) (oi := { dst := some 124, op := Go.Op.move (Go.Operand.tmp 8), type := 3, pos := "ref.go:84", after := #[], guard := none }) (v := ?_) rfl (by kernel_rfl) (by kernel_rfl) (by kernel_rfl) (by kernel_rfl) (fun _ _ _ h => h) (Or.inl ⟨rfl, ?_⟩) (by assumption) ?_
          rotate_left
          · intro wz hSw; (try dsimp only at hSw); go_simp; try (with_reducible rfl)
          try simp only [Act.put, List.setIfInBounds_toArray, List.set_cons_zero, List.set_cons_succ]
          refine tail_take (i := 2) (oi := { dst := some 125, op := Go.Op.binOp Go.BinOp.sub 3 (Go.Operand.tmp 124) (Go.Operand.const (Go.Value.int Go.IntKind.i64 2)) 3, type := 3, pos := "ref.go:84", after := #[{ on := 1, ground := Go.Ground.data }], guard := none }) (v := ?_) rfl (by kernel_rfl) (by kernel_rfl) (by kernel_rfl) (by kernel_rfl) (fun _ _ _ h => h) (Or.inl ⟨rfl, ?_⟩) (by assumption) ?_
          rotate_left
          · intro wz hSw; (try dsimp only at hSw); go_simp; try (with_reducible rfl)
          try simp only [Act.put, List.setIfInBounds_toArray, List.set_cons_zero, List.set_cons_succ]
          refine tail_take (i := 3) (oi := { dst := some 126, op := Go.Op.slice 70 (Go.Operand.tmp 123) none (some (Go.Operand.tmp 125)) none, type := 70, pos := "ref.go:84", after := #[{ on := 0, ground := Go.Ground.data }, { on := 2, ground := Go.Ground.data }], guard := none }) (v := ?_) rfl (by kernel_rfl) (by kernel_rfl) (by kernel_rfl) (by kernel_rfl) (fun _ _ _ h => h) (Or.inl ⟨rfl, ?_⟩) (by assumption) ?_
          rotate_left
          · intro wz hSw; (try dsimp only at hSw); go_simp; try (with_reducible rfl)
          try simp only [Act.put, List.setIfInBounds_toArray, List.set_cons_zero, List.set_cons_succ]
          refine tail_take (i := 4) (oi := { dst := some 127, op := Go.Op.move (Go.Operand.tmp 5), type := 70, pos := "ref.go:84", after := #[], guard := none }) (v := ?_) rfl (by kernel_rfl) (by kernel_rfl) (by kernel_rfl) (by kernel_rfl) (fun _ _ _ h => h) (Or.inl ⟨rfl, ?_⟩) (by assumption) ?_
          rotate_left
          · intro wz hSw; (try dsimp only at hSw); go_simp; try (with_reducible rfl)
          try simp only [Act.put, List.setIfInBounds_toArray, List.set_cons_zero, List.set_cons_succ]
          refine tail_take (i := 5) (oi := { dst := some 128, op := Go.Op.move (Go.Operand.tmp 8), type := 3, pos := "ref.go:84", after := #[], guard := none }) (v := ?_) rfl (by kernel_rfl) (by kernel_rfl) (by kernel_rfl) (by kernel_rfl) (fun _ _ _ h => h) (Or.inl ⟨rfl, ?_⟩) (by assumption) ?_
          rotate_left
          · intro wz hSw; (try dsimp only at hSw); go_simp; try (with_reducible rfl)
          try simp only [Act.put, List.setIfInBounds_toArray, List.set_cons_zero, List.set_cons_succ]
          refine tail_take (i := 6) (oi := { dst := some 129, op := Go.Op.binOp Go.BinOp.sub 3 (Go.Operand.tmp 128) (Go.Operand.const (Go.Value.int Go.IntKind.i64 2)) 3, type := 3, pos := "ref.go:84", after := #[{ on := 5, ground := Go.Ground.data }], guard := none }) (v := ?_) rfl (by kernel_rfl) (by kernel_rfl) (by kernel_rfl) (by kernel_rfl) (fun _ _ _ h => h) (Or.inl ⟨rfl, ?_⟩) (by assumption) ?_
          rotate_left
          · intro wz hSw; (try dsimp only at hSw); go_simp; try (with_reducible rfl)
          try simp only [Act.put, List.setIfInBounds_toArray, List.set_cons_zero, List.set_cons_succ]
          refine tail_take (i := 7) (oi := { dst := some 130, op := Go.Op.indexAddr 70 (Go.Operand.tmp 127) (Go.Operand.tmp 129), type := 0, pos := "ref.go:84", after := #[{ on := 4, ground := Go.Ground.data }, { on := 6, ground := Go.Ground.data }], guard := none }) (v := ?_) rfl (by kernel_rfl) (by kernel_rfl) (by kernel_rfl) (by kernel_rfl) (fun _ _ _ h => h) (Or.inl ⟨rfl, ?_⟩) (by assumption) ?_
          rotate_left
          · intro wz hSw; (try dsimp only at hSw); go_simp; try (with_reducible rfl)
          try simp only [Act.put, List.setIfInBounds_toArray, List.set_cons_zero, List.set_cons_succ]
          refine tail_take (i := 8) (oi := { dst := some 131, op := Go.Op.load 4 (Go.Operand.tmp 130), type := 4, pos := "ref.go:84", after := #[{ on := 7, ground := Go.Ground.data }], guard := none }) (v := ?_) rfl (by kernel_rfl) (by kernel_rfl) (by kernel_rfl) (by kernel_rfl) (fun _ _ _ h => h) (Or.inl ⟨rfl, ?_⟩) (by assumption) ?_
          rotate_left
          · intro wz hSw; (try dsimp only at hSw); go_simp; try (with_reducible rfl)
          try simp only [Act.put, List.setIfInBounds_toArray, List.set_cons_zero, List.set_cons_succ]
          refine tail_take (i := 9) (oi := { dst := some 132, op := Go.Op.move (Go.Operand.tmp 131), type := 4, pos := "ref.go:84", after := #[{ on := 8, ground := Go.Ground.data }], guard := none }) (v := ?_) rfl (by kernel_rfl) (by kernel_rfl) (by kernel_rfl) (by kernel_rfl) (fun _ _ _ h => h) (Or.inl ⟨rfl, ?_⟩) (by assumption) ?_
          rotate_left
          · intro wz hSw; (try dsimp only at hSw); go_simp; try (with_reducible rfl)
          try simp only [Act.put, List.setIfInBounds_toArray, List.set_cons_zero, List.set_cons_succ]
          refine tail_take (i := 10) (oi := { dst := some 133, op := Go.Op.move (Go.Operand.tmp 5), type := 70, pos := "ref.go:84", after := #[{ on := 9, ground := Go.Ground.guard }], guard := some (9, false) }) (v := undef) rfl (by kernel_rfl) (by kernel_rfl) (by kernel_rfl) (by kernel_rfl) (fun _ _ _ h => h) (Or.inr ⟨rfl, rfl⟩) (by assumption) ?_
          try simp only [Act.put, List.setIfInBounds_toArray, List.set_cons_zero, List.set_cons_succ]
          refine tail_take (i := 11) (oi := { dst := some 134, op := Go.Op.move (Go.Operand.tmp 8), type := 3, pos := "ref.go:84", after := #[{ on := 9, ground := Go.Ground.guard }], guard := some (9, false) }) (v := undef) rfl (by kernel_rfl) (by kernel_rfl) (by kernel_rfl) (by kernel_rfl) (fun _ _ _ h => h) (Or.inr ⟨rfl, rfl⟩) (by assumption) ?_
          try simp only [Act.put, List.setIfInBounds_toArray, List.set_cons_zero, List.set_cons_succ]
          refine tail_take (i := 12) (oi := { dst := some 135, op := Go.Op.binOp Go.BinOp.sub 3 (Go.Operand.tmp 134) (Go.Operand.const (Go.Value.int Go.IntKind.i64 1)) 3, type := 3, pos := "ref.go:84", after := #[{ on := 11, ground := Go.Ground.data }, { on := 9, ground := Go.Ground.guard }], guard := some (9, false) }) (v := undef) rfl (by kernel_rfl) (by kernel_rfl) (by kernel_rfl) (by kernel_rfl) (fun _ _ _ h => h) (Or.inr ⟨rfl, rfl⟩) (by assumption) ?_
          try simp only [Act.put, List.setIfInBounds_toArray, List.set_cons_zero, List.set_cons_succ]
          refine tail_take (i := 13) (oi := { dst := some 136, op := Go.Op.indexAddr 70 (Go.Operand.tmp 133) (Go.Operand.tmp 135), type := 0, pos := "ref.go:84", after := #[{ on := 10, ground := Go.Ground.data }, { on := 12, ground := Go.Ground.data }, { on := 9, ground := Go.Ground.guard }], guard := some (9, false) }) (v := undef) rfl (by kernel_rfl) (by kernel_rfl) (by kernel_rfl) (by kernel_rfl) (fun _ _ _ h => h) (Or.inr ⟨rfl, rfl⟩) (by assumption) ?_
          try simp only [Act.put, List.setIfInBounds_toArray, List.set_cons_zero, List.set_cons_succ]
          refine tail_take (i := 14) (oi := { dst := some 137, op := Go.Op.load 4 (Go.Operand.tmp 136), type := 4, pos := "ref.go:84", after := #[{ on := 13, ground := Go.Ground.data }, { on := 9, ground := Go.Ground.guard }], guard := some (9, false) }) (v := undef) rfl (by kernel_rfl) (by kernel_rfl) (by kernel_rfl) (by kernel_rfl) (fun _ _ _ h => h) (Or.inr ⟨rfl, rfl⟩) (by assumption) ?_
          try simp only [Act.put, List.setIfInBounds_toArray, List.set_cons_zero, List.set_cons_succ]
          refine tail_take (i := 15) (oi := { dst := some 138, op := Go.Op.pick (Go.Operand.tmp 132) (Go.Operand.const (Go.Value.bool true)) (Go.Operand.tmp 137), type := 4, pos := "ref.go:84", after := #[{ on := 9, ground := Go.Ground.data }, { on := 14, ground := Go.Ground.data }], guard := none }) (v := ?_) rfl (by kernel_rfl) (by kernel_rfl) (by kernel_rfl) (by kernel_rfl) (fun _ _ _ h => h) (Or.inl ⟨rfl, ?_⟩) (by assumption) ?_
          rotate_left
          · intro wz hSw; (try dsimp only at hSw); go_simp; try (with_reducible rfl)
          try simp only [Act.put, List.setIfInBounds_toArray, List.set_cons_zero, List.set_cons_succ]
          refine tail_call (i := 16) (o := { dst := some 139, op := Go.Op.buildSlice 70 1 #[(0, Go.Operand.tmp 138)], type := 70, pos := "ref.go:84", after := #[{ on := 15, ground := Go.Ground.data }], guard := none }) (by kernel_rfl) (by kernel_rfl) rfl (fun K hK => ?_)
          go_simp
          have hb1 : Below W1.heap.size W1 (W1.alloc (.cells #[.bool true] 4)).drew := below_drewish2 ((Below.refl W1.heap.size W1).alloc (Nat.le_refl _) _)
          replace c0 := (hb1.cell (p := ⟨g, q, none⟩) hgl').trans c0
          replace c1 := (hb1.cell (p := ⟨g, q + 1, none⟩) hgl').trans c1
          have HR1 : Hid (RowAt cellsB 1 (W1.alloc (.cells #[.bool true] 4)).drew (W1.heap.size + 1) (some ⟨W1.heap.size, 0, none⟩) 1 [true]) := one_row rowB (heap_alloc_new W1 _)
          have HO1 := Lib.hid (rown_below HO.out hb1)
          have HB1 := Lib.hid (HB.out.trans (hb1.mono HB.out.size))
          clear hb1
          generalize (W1.alloc (.cells #[.bool true] 4)).drew = u2 at *
          refine hK.out _ _ ⟨c0, c1⟩ (fun hHeld => ?_)
          clear hK K
          try simp only [Act.put, List.setIfInBounds_toArray, List.set_cons_zero, List.set_cons_succ]
          refine tail_enter ?_
          refine rest_step (k := 17) (o := { dst := some 140, op := Go.Op.call { callee := Go.Callee.builtin Go.Builtin.append, args := #[Go.Operand.tmp 126, Go.Operand.tmp 139], argTypes := #[70, 70] }, type := 70, pos := "ref.go:84", after := #[{ on := 3, ground := Go.Ground.data }, { on := 16, ground := Go.Ground.data }, { on := 9, ground := Go.Ground.chain }], guard := none }) (by kernel_rfl) (by kernel_rfl) rfl (fun K hK => ?_)
          refine step_append_row rowB (B := w2.heap.size) (v := .slice (some ⟨g, 0, none⟩) q cv) (n := q) (zs := ts.take q) (m := 1) (ys := [true]) (by rfl) _ _ (by rfl) (by rfl) (own_take HO1.out (by omega)) (by rfl) HR1.out (by omega) (by exact HB1.out.size) ?_
          intro A3 c3 w3 hown3 hg3 hat3
          have HB3 := Lib.hid (HB1.out.grown hg3 HB1.out.size (fun g e => (HGX.out g e).1))
          have HO3 := Lib.hid hown3
          clear hown3 hg3 hat3 hHeld
          refine hK.out _ _ ?_
          clear hK K
          try simp only [Act.put, List.setIfInBounds_toArray, List.set_cons_zero, List.set_cons_succ]
          refine rest_step (k := 18) (o := { dst := some 5, op := Go.Op.assign (Go.Operand.tmp 140), type := 70, pos := "ref.go:84", after := #[{ on := 17, ground := Go.Ground.data }, { on := 17, ground := Go.Ground.chain }, { on := 0, ground := Go.Ground.phase }, { on := 1, ground := Go.Ground.phase }, { on := 2, ground := Go.Ground.phase }, { on := 3, ground := Go.Ground.phase }, { on := 4, ground := Go.Ground.phase }, { on := 5, ground := Go.Ground.phase }, { on := 6, ground := Go.Ground.phase }, { on := 7, ground := Go.Ground.phase }, { on := 8, ground := Go.Ground.phase }, { on := 9, ground := Go.Ground.phase }, { on := 10, ground := Go.Ground.phase }, { on := 11, ground := Go.Ground.phase }, { on := 12, ground := Go.Ground.phase }, { on := 13, ground := Go.Ground.phase }, { on := 14, ground := Go.Ground.phase }, { on := 15, ground := Go.Ground.phase }, { on := 16, ground := Go.Ground.phase }, { on := 17, ground := Go.Ground.phase }], guard := none }) (by kernel_rfl) (by kernel_rfl) rfl (fun K hK => ?_)
          go_simp
          refine hK.out _ _ ?_
          clear hK K
          try simp only [Act.put, List.setIfInBounds_toArray, List.set_cons_zero, List.set_cons_succ]
          refine rest_done (by kernel_rfl) ?_
          have HC3 : Hid (HalfH px py rs w2 (k + 1) A3 (q + 1) c3 w3) := HNX.out _ _ _ _ (by rw [HST.out, List.length_append, List.length_take, List.length_singleton, HLQ.out]; omega) (by rw [HST.out]; exact HO3.out) HB3.out
          go_wp2
          go_roundw
          case rel => exact ⟨k + 1, q + 1, A3, c3, by omega, by go_num, rfl, HC3⟩
          case measure => simp [intOf]; omega
      have hbad : fitsR ⟨op, x, y, z⟩ = false := by
        unfold fitsR
        simp only
        rw [if_neg h2, if_neg h3, if_neg (by omega)]
      have := HFT.out
      rw [hbad] at this
      cases this
    · obtain rfl : k = n := by omega
      have hT : rs.take k = rs := List.take_of_length_le (by have := HLN.out; omega)
      rw [hT, HAN.out] at HO HLL
      have hL1 : L = 1 := HLL.out
      subst hL1
      obtain ⟨b, o, rfl, hb, c0⟩ := bool_at (own_row rowB HO.out) (k := 0) (by omega)
      replace c0 : wr.cell? ⟨b, o, none⟩ = some (.bool ans) := c0
      have HBB : Hid (Below P w wr) := HBW.out.trans (HB.out.mono (by omega))
      clear hT
      go_wp2
      go_ret
      exact ⟨ret_bool HF.out.symm, by rw [hPP]; exact HBB.out⟩
end Go.Proofs.YtkklikkmpmlnbaaDoor
