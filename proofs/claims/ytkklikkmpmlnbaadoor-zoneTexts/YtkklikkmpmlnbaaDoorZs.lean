/- A zone turned by a quarter: the law's turned, and what Has answers then. -/
import Derived.Test.YtkklikkmpmlnbaaDoorZm
import Derived.Test.YtkklikkmpmlnbaaDoorZd
import Derived.Test.YtkklikkmpmlnbaaDoorGc
namespace Go.Proofs.YtkklikkmpmlnbaaDoor
open Go.RowKit

def tR (r : RSt) : RSt := ⟨r.op, -r.y, r.x, r.sz⟩
theorem turn_four (rs : List RSt) : (((rs.map tR).map tR).map tR).map tR = rs := by
  rw [List.map_map, List.map_map, List.map_map]
  conv => rhs; rw [← List.map_id rs]
  congr 1
  funext r
  obtain ⟨o, x, y, z⟩ := r
  simp [tR]
theorem whole_turn (x y : Int) : wholeF (-y) x = wholeF x y := by
  rw [Bool.eq_iff_iff, whole_iff, whole_iff]
  omega
theorem fits_turn (r : RSt) : fitsR (tR r) = fitsR r := by
  obtain ⟨o, x, y, z⟩ := r
  unfold fitsR tR
  simp only [whole_turn]
  split <;> (try split) <;> (try split) <;> first | rfl | (simp only [Int.neg_eq_zero]; rw [Bool.and_comm (decide (y = 0))])
theorem step_turn (t : Int) (r : RSt) : stepR t (tR r) = stepR t r := by
  unfold stepR
  rw [fits_turn]
  rfl
theorem fold_turn (t : Int) (rs : List RSt) : foldR t (rs.map tR) = foldR t rs := by
  induction rs generalizing t with
  | nil => rfl
  | cons r l ih =>
    show (stepR t (tR r)).bind _ = (stepR t r).bind _
    rw [step_turn]
    congr 1
    funext u
    exact ih u
theorem right_turn (rs : List RSt) : rightZ (rs.map tR) = rightZ rs := by
  unfold rightZ
  rw [fold_turn, List.length_map]
theorem truth_turn (r : RSt) (ts : List Bool) (px py : Int) : truthF (tR r) ts (-py) px = truthF r ts px py := by
  obtain ⟨o, x, y, z⟩ := r
  have h1 : -py - -y = -(py - y) := by omega
  have h2 : (-py - -y) * (-py - -y) + (px - x) * (px - x) = (px - x) * (px - x) + (py - y) * (py - y) := by
    rw [h1, Int.neg_mul_neg, Int.add_comm]
  have h3 : -py * -y + px * x = px * x + py * y := by rw [Int.neg_mul_neg, Int.add_comm]
  unfold truthF tR
  simp only [h2, h3]
theorem run_turn (px py : Int) (rs : List RSt) : ∀ ts, runH (-py) px ts (rs.map tR) = runH px py ts rs := by
  induction rs with
  | nil => intro ts; rfl
  | cons r l ih =>
    intro ts
    show runH (-py) px (stepH (-py) px ts (tR r)) (l.map tR) = runH px py (stepH px py ts r) l
    have : stepH (-py) px ts (tR r) = stepH px py ts r := by
      unfold stepH
      rw [truth_turn]
      rfl
    rw [this]
    exact ih _
theorem has_turn (rs : List RSt) (px py : Int) : hasZ (rs.map tR) (-py) px = hasZ rs px py := by
  unfold hasZ
  rw [right_turn, whole_turn, run_turn]
theorem small_turn {r : RSt} (h : SmallR r) : SmallR (tR r) := ⟨by have := h.2.1; unfold Small at *; show (-r.y).natAbs < _; omega, h.1, h.2.2⟩

set_option maxRecDepth 100000 in
set_option maxHeartbeats 4000000 in
theorem turned_any (A : Option Addr) (n c : Nat) (rs : List RSt) (B : Nat) (w : World) (hB : B ≤ w.heap.size) (hz : RowAt cellsR 4 w B A n rs) (hs : ∀ r ∈ rs, SmallR r) (hn : n ≤ 1073741824) :
    Calls Tryd.prog 30 #[.slice A n c] w (OwnRow cellsR 4 59 (rs.map tR) w) := by
  have HL : Hid (rs.length = n) := hz.1
  have HZ := Lib.hid hz
  have HSM := Lib.hid hs
  clear hz hs
  go_enter Tryd.func30, Tryd.ntmps30
  go_wp2
  go_loopw [3, 4] (fun v i wr => ∃ (k : Nat) (Av : Option Addr) (cv : Nat), k ≤ n ∧ i = .int .i64 k ∧ v = .slice Av k cv ∧ Hid (CopyZ cellsR 4 59 w (rs.map tR) k Av cv wr)) (fun _ i _ => n - (intOf i).toNat)
  case atStart => exact ⟨0, none, 0, by omega, rfl, rfl, rown_nil _ _, Below.refl _ _⟩
  case round =>
    obtain ⟨k, Av, cv, hk, rfl, rfl, HC⟩ := hrel
    obtain ⟨hown, hbel⟩ := HC.out
    have HO := Lib.hid hown
    have HB := Lib.hid hbel
    clear hown hbel HC
    by_cases hlt : k < n
    · obtain ⟨blk, off, rfl, hbB, r, hrk, hcell⟩ := HZ.out.get hlt
      obtain ⟨e0, e1, e2, e3⟩ := cellsR_at hcell
      replace e0 := ((HB.out.mono hB).cell (p := ⟨blk, off + k * 4, none⟩) hbB).trans e0
      replace e1 := ((HB.out.mono hB).cell (p := ⟨blk, off + k * 4 + 1, none⟩) hbB).trans e1
      replace e2 := ((HB.out.mono hB).cell (p := ⟨blk, off + k * 4 + 2, none⟩) hbB).trans e2
      replace e3 := ((HB.out.mono hB).cell (p := ⟨blk, off + k * 4 + 3, none⟩) hbB).trans e3
      have hi1 : (k : Int) < n := by omega
      have HTS : Hid ((rs.map tR).take (k + 1) = (rs.map tR).take k ++ [tR r]) := snocR (by rw [List.getElem?_map, hrk]; rfl)
      obtain ⟨s1, s2, s3⟩ := HSM.out r (List.mem_of_getElem? hrk)
      obtain ⟨op, x, y, z⟩ := r
      simp only at e0 e1 e2 e3 s1 s2 s3
      have hny : -9223372036854775808 ≤ -y ∧ -y ≤ 9223372036854775807 := by unfold Small at s2; omega
      clear hcell hrk s1 s2 s3
      go_upto_region 7 with fail
      have hb1 : Below wr.heap.size wr (wr.alloc (.cells #[.int .i64 op, .int .i64 (-y), .int .i64 x, .int .i64 z] 59)) := (Below.refl _ _).alloc (Nat.le_refl _) _
      have t0 : (wr.alloc (.cells #[.int .i64 op, .int .i64 (-y), .int .i64 x, .int .i64 z] 59)).cell? ⟨wr.heap.size, 0, none⟩ = some (.int .i64 op) := by simp [go_sem]
      have t1 : (wr.alloc (.cells #[.int .i64 op, .int .i64 (-y), .int .i64 x, .int .i64 z] 59)).cell? ⟨wr.heap.size, 1, none⟩ = some (.int .i64 (-y)) := by simp [go_sem]
      have t2 : (wr.alloc (.cells #[.int .i64 op, .int .i64 (-y), .int .i64 x, .int .i64 z] 59)).cell? ⟨wr.heap.size, 2, none⟩ = some (.int .i64 x) := by simp [go_sem]
      have t3 : (wr.alloc (.cells #[.int .i64 op, .int .i64 (-y), .int .i64 x, .int .i64 z] 59)).cell? ⟨wr.heap.size, 3, none⟩ = some (.int .i64 z) := by simp [go_sem]
      replace HO := Lib.hid (rown_below HO.out hb1)
      replace HB := Lib.hid (HB.out.trans (hb1.mono HB.out.size))
      clear hb1 e0 e1 e2 e3
      generalize wr.alloc (.cells #[.int .i64 op, .int .i64 (-y), .int .i64 x, .int .i64 z] 59) = W1 at *
      generalize wr.heap.size = X at *
      have hsz := HB.out.size
      have HR1 : Hid (RowAt cellsR 4 (W1.alloc (.cells #[.int .i64 op, .int .i64 (-y), .int .i64 x, .int .i64 z] 59)) (W1.heap.size + 1) (some ⟨W1.heap.size, 0, none⟩) 1 [tR ⟨op, x, y, z⟩]) := one_row rowR (heap_alloc_new W1 _)
      have HO1 := Lib.hid (HO.out.alloc (.cells #[.int .i64 op, .int .i64 (-y), .int .i64 x, .int .i64 z] 59))
      go_wp2_with (at_builtin; refine wpList_append_row rowR (B := w.heap.size) (v := .slice Av k cv) (n := k) (zs := (rs.map tR).take k) (m := 1) (ys := [tR ⟨op, x, y, z⟩]) rfl _ _ rfl rfl HO1.out rfl HR1.out (by omega) (by simp; omega) ?_; intro A3 c3 w3 hown3 hg3 hat3)
      have HC3 : Hid (CopyZ cellsR 4 59 w (rs.map tR) (k + 1) A3 c3 w3) := ⟨by rw [HTS.out]; exact hown3, (HB.out.alloc hsz _).grown hg3 (Nat.le_trans hsz (by simp)) (fun g e => (HO.out.lt g e).1)⟩
      clear hown3 hg3 hat3 HTS
      go_wp2
      go_roundw
      case rel => exact ⟨k + 1, A3, c3, by omega, by go_num, rfl, HC3⟩
      case measure => simp [intOf]; omega
    · obtain rfl : k = n := by omega
      have HFL : Hid ((rs.map tR).length = k) := by show _ = _; rw [List.length_map]; exact HL.out
      go_wp2
      go_ret
      have hlk := HFL.out
      have ht : (rs.map tR).take k = rs.map tR := by rw [← hlk]; exact List.take_length
      refine ⟨Av, cv, by rw [HFL.out]; rfl, ?_, HB.out⟩
      have := HO.out
      rw [ht] at this
      rw [HFL.out]
      exact this
end Go.Proofs.YtkklikkmpmlnbaaDoor
