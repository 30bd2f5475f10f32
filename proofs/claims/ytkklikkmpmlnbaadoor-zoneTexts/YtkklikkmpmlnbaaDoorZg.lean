/- zone.Text. -/
import Derived.Test.YtkklikkmpmlnbaaDoorZe
import Derived.Test.YtkklikkmpmlnbaaDoorZd
namespace Go.Proofs.YtkklikkmpmlnbaaDoor
open Go.RowKit

def cellsS (b : ByteArray) : List Value := [.string b]
theorem rowStr : RowTy cellsS 1 16 (.string ⟨#[]⟩) 60 9 := ⟨Tryd.underlying60, by kernel_rfl, rfl, by omega, by omega, fun _ => rfl, fun x u hu => by simp only [cellsS, List.mem_singleton] at hu; subst hu; rfl⟩
def textF (rs : List RSt) : ByteArray := if rightZ rs then ⟨(Lib.join ((rs.map stepTextF).map (·.data.toList)) [44]).toArray⟩ else ⟨#[]⟩
theorem join_len (sep : List UInt8) (m : Nat) : ∀ (xs : List (List UInt8)), (∀ x ∈ xs, x.length ≤ m) → (Lib.join xs sep).length ≤ xs.length * (m + sep.length)
  | [], _ => by rw [Lib.join_nil]; simp
  | x :: r, h => by
    rw [Lib.join_cons, List.length_append, List.length_cons]
    have h1 := h x (by simp)
    have h2 : (Lib.joinTail sep r).length ≤ r.length * (m + sep.length) := by
      have h3 : ∀ y ∈ r, y.length ≤ m := fun y hy => h y (by simp [hy])
      clear h h1
      induction r with
      | nil => simp [Lib.joinTail]
      | cons y r ih =>
        have h4 := ih fun z hz => h3 z (by simp [hz])
        have h5 := h3 y (by simp)
        unfold Lib.joinTail at h4 ⊢
        rw [List.map_cons, List.flatten_cons, List.length_append, List.length_append, List.length_cons, Nat.add_mul, Nat.one_mul]
        omega
    rw [Nat.add_mul, Nat.one_mul]
    omega
theorem fits_small {r : RSt} (h : fitsR r = true) : Small r.x ∧ Small r.y ∧ Small r.sz := by
  unfold fitsR at h
  split at h
  · rw [Bool.and_eq_true, whole_iff, within_iff] at h
    unfold Small
    omega
  · split at h
    · rw [Bool.and_eq_true, whole_iff, within_iff] at h
      unfold Small
      omega
    · split at h
      · simp only [Bool.and_eq_true, decide_eq_true_eq] at h
        unfold Small
        omega
      · cases h
theorem name_len (op : Int) : (nameF op).size ≤ 4 := by
  unfold nameF
  repeat (split; · decide)
  decide
theorem stepText_len {r : RSt} (h : fitsR r = true) : (stepTextF r).size ≤ 70 := by
  obtain ⟨h1, h2, h3⟩ := fits_small h
  have e1 : (itoaB r.x).size ≤ 21 := by have := h1.lt; exact Lib.itoa_length_le r.x (by omega) (by omega)
  have e2 : (itoaB r.y).size ≤ 21 := by have := h2.lt; exact Lib.itoa_length_le r.y (by omega) (by omega)
  have e3 : (itoaB r.sz).size ≤ 21 := by have := h3.lt; exact Lib.itoa_length_le r.sz (by omega) (by omega)
  have e4 := name_len r.op
  unfold stepTextF
  split
  · simp only [ByteArray.size_append, show (ByteArray.mk #[32]).size = 1 from rfl]
    omega
  · omega
/-- Half way: the words, as a row of the call's own. -/
def HalfT (rs : List RSt) (w : World) (k : Nat) (Av : Option Addr) (cv : Nat) (wr : World) : Prop := wr.ownsRow w.heap.size 9 1 (.slice Av k cv) k (rowCells cellsS ((rs.take k).map stepTextF)) ∧ Below w.heap.size w wr

set_option maxRecDepth 100000 in
set_option maxHeartbeats 4000000 in
theorem text_any (A : Option Addr) (n c : Nat) (zs : List Stp) (rs : List RSt) (B : Nat) (w : World) (hB : B ≤ w.heap.size) (hz : RowAt cellsZ 3 w B A n zs) (hl : LikeL zs rs) (hg : Glob w) :
    Calls Tryd.prog 14 #[.slice A n c] w fun e w' => e = .returned (.string (textF rs)) ∧ Below w.heap.size w w' := by
  have HR := Lib.hid (rightZ_any A n c zs rs B w hB hz hl)
  rcases hr : rightZ rs with _ | _
  · have HF : Hid (textF rs = ⟨#[]⟩) := by show _ = _; unfold textF; rw [hr]; rfl
    rw [hr] at HR
    clear hz hl hr hg
    go_enter Tryd.func14, Tryd.ntmps14
    go_wp2_with fail
    refine HR.out.mono ?_
    rintro e w1 ⟨rfl, hb⟩
    go_wp2
    go_ret
    exact ⟨by rw [HF.out]; rfl, hb⟩
  have HF : Hid (textF rs = ⟨(Lib.join ((rs.map stepTextF).map (·.data.toList)) [44]).toArray⟩) := by show _ = _; unfold textF; rw [hr]; rfl
  have HLN : Hid (rs.length = n) := hl.1.symm.trans hz.1
  have HRI := Lib.hid hr
  have hn32 : n ≤ 32 := by have := (right_fold hr).1; have := HLN.out; omega
  have hn1 : 0 < n := by
    rcases Nat.eq_zero_or_pos n with h0 | h0
    · have h1 := (right_fold hr).2
      rw [List.eq_nil_of_length_eq_zero (HLN.out.trans h0)] at h1
      cases h1
    · exact h0
  have HG := Lib.hid hg
  have HZ := Lib.hid hz
  have HL := Lib.hid hl
  rw [hr] at HR
  clear hz hl hr hg
  go_enter Tryd.func14, Tryd.ntmps14
  go_wp2_with fail
  refine HR.out.mono ?_
  rintro e w1 ⟨rfl, hb0⟩
  have HB0 := Lib.hid hb0
  clear hb0
  go_wp2
  go_loopw [3, 11] (fun v i wr => ∃ (k : Nat) (Av : Option Addr) (cv : Nat), k ≤ n ∧ i = .int .i64 k ∧ v = .slice Av k cv ∧ Hid (HalfT rs w k Av cv wr)) (fun _ i _ => n - (intOf i).toNat)
  case atStart => exact ⟨0, none, 0, by omega, rfl, rfl, rown_nil _ _, HB0.out⟩
  case round =>
    obtain ⟨k, Av, cv, hk, rfl, rfl, HC⟩ := hrel
    obtain ⟨hown, hbel⟩ := HC.out
    have HO := Lib.hid hown
    have HB := Lib.hid hbel
    clear hown hbel HC
    by_cases hlt : k < n
    · obtain ⟨blk, off, rfl, hbB, z, hzk, hcell⟩ := HZ.out.get hlt
      obtain ⟨r, hrk, hlike⟩ := HL.out.get hzk
      obtain ⟨e0, e1, e2⟩ := cellsZ_at hcell
      replace e0 := ((HB.out.mono hB).cell (p := ⟨blk, off + k * 3, none⟩) hbB).trans e0
      replace e1 := ((HB.out.mono hB).cell (p := ⟨blk, off + k * 3 + 1, none⟩) hbB).trans e1
      replace e2 := ((HB.out.mono hB).cell (p := ⟨blk, off + k * 3 + 2, none⟩) hbB).trans e2
      have hi1 : (k : Int) < n := by omega
      have hfit := (run_step 0 0 HRI.out hrk).1
      have HST := Lib.hid (stepText_any z r hlike hfit)
      have HTS : Hid ((rs.take (k + 1)).map stepTextF = (rs.take k).map stepTextF ++ [stepTextF r]) := by show _ = _; rw [snocR hrk, List.map_append]; rfl
      clear hcell hzk hrk hlike hfit
      obtain ⟨op, re, im, sz⟩ := z
      unfold stpV at HST
      simp only at e0 e1 e2 HST
      have hst := store_complex
      have hst' := store_float
      generalize stepTextF r = tx at *
      go_upto_region 7 with fail
      have k0 : (wr.alloc (.cells #[.int .i64 op, .complex .f64 re im, .float .f64 sz] 54)).cell? ⟨wr.heap.size, 0, none⟩ = some (.int .i64 op) := by simp [go_sem]
      have k1 : (wr.alloc (.cells #[.int .i64 op, .complex .f64 re im, .float .f64 sz] 54)).cell? ⟨wr.heap.size, 1, none⟩ = some (.complex .f64 re im) := by simp [go_sem]
      have k2 : (wr.alloc (.cells #[.int .i64 op, .complex .f64 re im, .float .f64 sz] 54)).cell? ⟨wr.heap.size, 2, none⟩ = some (.float .f64 sz) := by simp [go_sem]
      replace HO := Lib.hid (HO.out.alloc (.cells #[.int .i64 op, .complex .f64 re im, .float .f64 sz] 54))
      replace HB : Hid (Below w.heap.size w (wr.alloc (.cells #[.int .i64 op, .complex .f64 re im, .float .f64 sz] 54))) := HB.out.alloc HB.out.size _
      clear e0 e1 e2
      generalize (wr.alloc (.cells #[.int .i64 op, .complex .f64 re im, .float .f64 sz] 54)) = W1 at *
      generalize wr.heap.size = X at *
      go_wp2_with fail
      refine (HST.out _ (HG.out.below HB.out)).mono ?_
      rintro e w2 ⟨rfl, hb⟩
      replace HO := Lib.hid (rown_below HO.out hb)
      replace HB := Lib.hid (HB.out.trans (hb.mono HB.out.size))
      clear hb k0 k1 k2
      have hsz := HB.out.size
      have HR1 : Hid (RowAt cellsS 1 (w2.alloc (.cells #[.string tx] 9)) (w2.heap.size + 1) (some ⟨w2.heap.size, 0, none⟩) 1 [tx]) := one_row rowStr (heap_alloc_new w2 _)
      have HO1 := Lib.hid (HO.out.alloc (.cells #[.string tx] 9))
      go_wp2_with (at_builtin; refine wpList_append_row rowStr (B := w.heap.size) (v := .slice Av k cv) (n := k) (zs := (rs.take k).map stepTextF) (m := 1) (ys := [tx]) rfl _ _ rfl rfl HO1.out rfl HR1.out (by omega) (by simp; omega) ?_; intro A3 c3 w3 hown3 hg3 hat3)
      rw [← HTS.out] at hown3
      have HC3 : Hid (HalfT rs w (k + 1) A3 c3 w3) := ⟨hown3, (HB.out.alloc hsz _).grown hg3 (Nat.le_trans hsz (by simp)) (fun g e => (HO.out.lt g e).1)⟩
      clear hown3 hg3 hat3
      go_wp2
      go_roundw
      case rel => exact ⟨k + 1, A3, c3, by omega, by go_num, rfl, HC3⟩
      case measure => simp [intOf]; omega
    · obtain rfl : k = n := by omega
      have hT : rs.take k = rs := List.take_of_length_le (by have := HLN.out; omega)
      rw [hT] at HO
      have hrow := own_row rowStr HO.out
      have hcap := rown_cap HO.out
      obtain ⟨g, o, rfl, hgl, hc⟩ := hrow.2 hn1
      have hjl : (Lib.join ((rs.map stepTextF).map (·.data.toList)) [44]).length ≤ 140737488355328 := by
        have h1 := join_len [44] 70 ((rs.map stepTextF).map (·.data.toList)) (fun x hx => by
          obtain ⟨b, hb, rfl⟩ := List.mem_map.mp hx
          obtain ⟨r, hr, rfl⟩ := List.mem_map.mp hb
          obtain ⟨j, hj⟩ := List.getElem?_of_mem hr
          have := stepText_len (run_step 0 0 HRI.out hj).1
          simpa using this)
        have h2 : ((rs.map stepTextF).map (·.data.toList)).length = k := by rw [List.length_map, List.length_map]; exact HLN.out
        rw [h2] at h1
        have : k * (70 + [44].length) ≤ 32 * (70 + [44].length) := Nat.mul_le_mul_right _ hn32
        simp only [List.length_singleton] at this h1
        omega
      have HJ := Lib.hid (Tryd.strings_Join g o cv (rs.map stepTextF) ⟨#[44]⟩ wr (fun j x hx => by
        obtain ⟨hj, rfl⟩ := List.getElem?_eq_some_iff.mp hx
        have := hc j hj 0 (.string (rs.map stepTextF)[j]) rfl
        simpa using this) hgl (by rw [List.length_map, HLN.out]; omega) (by rw [List.length_map, HLN.out]; omega) hjl)
      have HLM : Hid ((rs.map stepTextF).length = k) := by show _ = _; rw [List.length_map]; exact HLN.out
      rw [HLM.out] at HJ
      clear hrow hc hT hjl
      have HF2 : Hid (textF rs = ⟨(Lib.join ((rs.map stepTextF).map (·.data.toList)) (ByteArray.mk #[44]).data.toList).toArray⟩) := HF.out
      generalize Lib.join ((rs.map stepTextF).map (·.data.toList)) (ByteArray.mk #[44]).data.toList = J at *
      go_wp2_with fail
      refine HJ.out.mono ?_
      rintro e w2 ⟨rfl, hb⟩
      have HB2 := Lib.hid (HB.out.trans (hb.mono HB.out.size))
      clear hb
      go_wp2
      go_ret
      exact ⟨by rw [HF2.out]; rfl, HB2.out⟩
end Go.Proofs.YtkklikkmpmlnbaaDoor
