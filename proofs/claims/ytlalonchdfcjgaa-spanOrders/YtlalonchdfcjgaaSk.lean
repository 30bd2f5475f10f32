/- span.Within; the document's Same. -/
import Derived.Test.YtlalonchdfcjgaaSj
namespace Go.Proofs.Ytlalonchdfcjgaa
open Go.RowKit

theorem all_take_next {p : Int → Bool} {zs : List Int} {k : Nat} (h : k < zs.length) : (zs.take (k + 1)).all p = ((zs.take k).all p && p (zs.getD k 0)) := by
  rw [take_next zs k h, List.all_append]
  simp

set_option maxHeartbeats 1000000 in
theorem within_any (a : Int) (A : Option Addr) (n c : Nat) (xs : List Int) (b : Int) (A' : Option Addr) (m c' : Nat) (ys : List Int) (B : Nat) (w : World) (hB : B ≤ w.heap.size) (hx : IntsAt w B A n xs) (hy : IntsAt w B A' m ys)
    (hn : n ≤ 1073741824) (hm : m ≤ 1073741824) (hs : ys.Pairwise (· < ·)) :
    Calls Try.prog 28 #[.agg #[.int .i64 a, .slice A n c], .agg #[.int .i64 b, .slice A' m c']] w fun e w' => e = .returned (.bool (withinF (a, xs) (b, ys))) ∧ Below w.heap.size w w' := by
  have HX := Lib.hid hx
  have HY := Lib.hid hy
  have HS := Lib.hid hs
  clear hx hy hs
  by_cases h : a ≤ b
  · have HF : Hid (withinF (a, xs) (b, ys) = xs.all (fun t => hasOf b ys t)) := by show withinF (a, xs) (b, ys) = _; unfold withinF; simp [h]
    go_enter Try.func28, Try.ntmps28
    go_wp2
    go_loopw [15] (fun i wr => ∃ (k : Nat), k ≤ n ∧ i = .int .i64 k ∧ Hid ((xs.take k).all (fun t => hasOf b ys t) = true) ∧ wr.cell? ⟨w.heap.size + 1, 0, none⟩ = some (.int .i64 b) ∧ wr.cell? ⟨w.heap.size + 1, 1, none⟩ = some (.slice A' m c') ∧ w.heap.size + 2 ≤ wr.heap.size ∧ Hid (Below w.heap.size w wr)) (fun i _ => n - (intOf i).toNat)
    case atStart => exact ⟨0, by omega, rfl, rfl, by simp [go_sem], by simp [go_sem], by simp, ((Below.refl _ _).alloc (Nat.le_refl _) _).alloc (by simp) _⟩
    case round =>
      obtain ⟨k, hk, rfl, HQ, k0, k1, hsz, HB⟩ := hrel
      by_cases hlt : k < n
      · obtain ⟨blk, off, rfl, hbB, hc⟩ := HX.out.2 (by omega)
        have hc1 := (HB.out.cell (p := ⟨blk, off + k, none⟩) (by simp; omega)).trans (hc k hlt)
        clear hc
        go_wp2_with fail
        refine (has_any b A' m c' ys (xs.getD k 0) B _ (Nat.le_trans hB HB.out.size) (HY.out.keep (HB.out.mono hB)) (by omega) HS.out).mono ?_
        rintro e w1 ⟨rfl, hb1⟩
        have q0 := (hb1.cell (p := ⟨w.heap.size + 1, 0, none⟩) hsz).trans k0
        have q1 := (hb1.cell (p := ⟨w.heap.size + 1, 1, none⟩) hsz).trans k1
        have HB1 : Hid (Below w.heap.size w w1) := HB.out.trans (hb1.mono HB.out.size)
        have hsz1 : w.heap.size + 2 ≤ w1.heap.size := Nat.le_trans hsz hb1.size
        clear hb1 k0 k1
        rcases hv : hasOf b ys (xs.getD k 0) with _ | _
        · have HE : Hid (withinF (a, xs) (b, ys) = false) := by
            show withinF (a, xs) (b, ys) = _
            rw [HF.out, List.all_eq_false]
            exact ⟨xs.getD k 0, mem_getD.2 ⟨k, by rw [HX.out.1]; exact hlt, rfl⟩, by rw [hv]; exact Bool.false_ne_true⟩
          clear hv
          go_wp2
          go_ret
          exact ⟨ret_bool HE.out.symm, HB1.out⟩
        · have HE : Hid ((xs.take (k + 1)).all (fun t => hasOf b ys t) = true) := by
            show _ = true
            rw [all_take_next (by rw [HX.out.1]; exact hlt), HQ.out, hv]; rfl
          clear hv
          go_wp2
          go_roundw
          case rel => exact ⟨k + 1, by omega, by go_num, HE, q0, q1, hsz1, HB1⟩
          case measure => simp [intOf]; omega
      · have HE : Hid (withinF (a, xs) (b, ys) = true) := by
          show withinF (a, xs) (b, ys) = _
          have h1 := HQ.out
          rw [List.take_of_length_le (by rw [HX.out.1]; omega)] at h1
          rw [HF.out, h1]
        go_wp2
        go_ret
        exact ⟨ret_bool HE.out.symm, HB.out⟩
  · have HF : Hid (withinF (a, xs) (b, ys) = false) := by show withinF (a, xs) (b, ys) = _; unfold withinF; simp [h]
    go_enter Try.func28, Try.ntmps28
    go_wp2
    go_ret
    exact ⟨ret_bool HF.out.symm, ((Below.refl _ _).alloc (Nat.le_refl _) _).alloc (by simp) _⟩

set_option maxHeartbeats 1000000 in
theorem refSame_any (a : Int) (A : Option Addr) (n c : Nat) (xs : List Int) (b : Int) (A' : Option Addr) (m c' : Nat) (ys : List Int) (B : Nat) (w : World) (hB : B ≤ w.heap.size) (hx : IntsAt w B A n xs) (hy : IntsAt w B A' m ys) (hn : n ≤ 1073741824) :
    Calls Try.prog 17 #[.agg #[.int .i64 a, .slice A n c], .agg #[.int .i64 b, .slice A' m c']] w fun e w' => e = .returned (.bool (sameF (a, xs) (b, ys))) ∧ Below w.heap.size w w' := by
  have HX := Lib.hid hx
  have HY := Lib.hid hy
  clear hx hy
  by_cases h : a = b
  · have h' : (a != b) = false := by simp [h]
    have HF : Hid (sameF (a, xs) (b, ys) = decide (xs = ys)) := by show sameF (a, xs) (b, ys) = _; unfold sameF; simp [h]
    clear h
    by_cases hnm : n = m
    · subst hnm
      go_enter Try.func17, Try.ntmps17
      go_wp2
      go_loopw [5] (fun i wr => ∃ (k q : Nat), k ≤ n ∧ i = .int .i64 k ∧ Hid (∀ j, j < k → xs.getD j 0 = ys.getD j 0) ∧ wr = ((w.alloc (Obj.cells #[Value.int IntKind.i64 a, Value.slice A n c] 24)).alloc (Obj.cells #[Value.int IntKind.i64 b, Value.slice A' n c'] 24)).drewN q) (fun i _ => n - (intOf i).toNat)
      case atStart => exact ⟨0, 0, by omega, rfl, fun j hj => by omega, rfl⟩
      case round =>
        obtain ⟨k, q, hk, rfl, HQ, rfl⟩ := hrel
        by_cases hlt : k < n
        · obtain ⟨b1, o1, rfl, hbB, hc⟩ := HX.out.2 (by omega)
          obtain ⟨b2, o2, rfl, hbB', hc'⟩ := HY.out.2 (by omega)
          have hc1 := hc k hlt
          have hc2 := hc' k hlt
          have hkI : (k : Int) < n := by omega
          have hb1 : b1 < w.heap.size := by omega
          have hb2 : b2 < w.heap.size := by omega
          have hb1' : b1 < w.heap.size + 1 := by omega
          have hb2' : b2 < w.heap.size + 1 := by omega
          clear hc hc'
          generalize hp : xs.getD k 0 = x at hc1
          generalize hr : ys.getD k 0 = y at hc2
          have HP := Lib.hid hp
          have HRr := Lib.hid hr
          clear hp hr
          by_cases he : x = y
          · have he' : (x != y) = false := by simp [he]
            have HE : Hid (∀ j, j < k + 1 → xs.getD j 0 = ys.getD j 0) := fun j hj => by
              rcases Nat.lt_or_ge j k with h | h
              · exact HQ.out j h
              · rw [show j = k by omega, HP.out, HRr.out, he]
            clear he
            go_wp2_with fail
            go_quiet (fail)
            go_wp2
            go_roundw
            case rel => exact ⟨k + 1, _, by omega, by go_num, HE, rfl⟩
            case measure => simp [intOf]; omega
          · have he' : (x != y) = true := by simpa using he
            have HE : Hid (decide (xs = ys) = false) := by
              show decide (xs = ys) = false
              rw [decide_eq_false_iff_not]
              intro h
              rw [← HP.out, ← HRr.out, h] at he
              exact he rfl
            clear he
            go_wp2_with fail
            go_quiet (fail)
            go_wp2
            go_ret
            exact ⟨ret_bool (HF.out.trans HE.out).symm, by repeat (first | exact ((Below.refl _ _).alloc (Nat.le_refl _) _).alloc (by simp) _ | refine below_d ?_ _)⟩
        · have HE : Hid (decide (xs = ys) = true) := by
            show decide (xs = ys) = true
            rw [decide_eq_true_eq]
            exact eq_of_cells HX.out.1 HY.out.1 (fun j hj => HQ.out j (by omega))
          go_wp2
          go_ret
          exact ⟨ret_bool (HF.out.trans HE.out).symm, by repeat (first | exact ((Below.refl _ _).alloc (Nat.le_refl _) _).alloc (by simp) _ | refine below_d ?_ _)⟩
    · have hd : ((n : Int) != (m : Int)) = true := by simp; omega
      have HE : Hid (decide (xs = ys) = false) := by
        show decide (xs = ys) = false
        rw [decide_eq_false_iff_not]
        intro h
        exact hnm (by rw [← HX.out.1, ← HY.out.1, h])
      go_enter Try.func17, Try.ntmps17
      go_wp2
      go_ret
      exact ⟨ret_bool (HF.out.trans HE.out).symm, ((Below.refl _ _).alloc (Nat.le_refl _) _).alloc (by simp) _⟩
  · have h' : (a != b) = true := by simpa using h
    have HF : Hid (sameF (a, xs) (b, ys) = false) := by show sameF (a, xs) (b, ys) = _; unfold sameF; simp [h]
    clear h
    go_enter Try.func17, Try.ntmps17
    go_wp2
    go_ret
    exact ⟨ret_bool HF.out.symm, ((Below.refl _ _).alloc (Nat.le_refl _) _).alloc (by simp) _⟩
end Go.Proofs.Ytlalonchdfcjgaa
