/- The laws IdOrders, IdAboves and IdParents walked. -/
import Derived.Test.YthplmnoalanhjaaDoorIe
import Derived.Test.YthplmnoalanhjaaDoorIc
namespace Go.Proofs.YthplmnoalanhjaaDoor
open Go.RowKit

theorem Drawn.below {w w' : World} (h : Drawn w w') : Below w.heap.size w w' := by
  obtain ⟨n, rfl⟩ := h
  exact below_drewN (Below.refl _ _) n
theorem beq_yes {a b : ByteArray} (h : a.data.toList = b.data.toList) : (a.toList == b.toList) = true := by
  rw [Go.ByteArray.toList_eq, Go.ByteArray.toList_eq, h]; exact beq_self_eq_true _
theorem beq_no {a b : ByteArray} (h : a.data.toList ≠ b.data.toList) : (a.toList == b.toList) = false := by
  rw [Go.ByteArray.toList_eq, Go.ByteArray.toList_eq]; exact beq_eq_false_iff_ne.mpr h

set_option maxHeartbeats 2000000 in
theorem idOrders_walk (a b c : ByteArray) (w : World) (ha : a.size ≤ 9223372036854775807) :
    Calls Tryd.prog 5 #[.string a, .string b, .string c] w fun e w' => e = .returned (.bool true) ∧ Below w.heap.size w w' := by
  have HN := Lib.hid (cmp_neg a.data.toList b.data.toList)
  have HZ := Lib.hid (cmp_zero a.data.toList b.data.toList)
  have HT := Lib.hid (cmp_trans a.data.toList b.data.toList c.data.toList)
  rcases cmp_three a.data.toList b.data.toList with h | h | h
  · have HA := Lib.hid h
    have HB : Hid (Lib.compareBytes b.data.toList a.data.toList = 1) := by show _ = _; rw [HN.out, h]; rfl
    have hq : (a.toList == b.toList) = false := beq_no (fun e => by have := HZ.out.mpr e; omega)
    have ht : Lib.compareBytes b.data.toList c.data.toList ≤ 0 → Lib.compareBytes a.data.toList c.data.toList ≤ 0 := fun h2 => HT.out (by omega) h2
    clear h HT
    go_enter Tryd.func5, Tryd.ntmps5
    go_wp2_with fail
    refine (compare_is _ _ _ HA _).mono ?_
    rintro e w' ⟨rfl, rfl⟩
    go_wp2_with fail
    refine (compare_any _ _ _).mono ?_
    rintro e w' ⟨rfl, rfl⟩
    go_wp2_with fail
    refine (compare_any _ _ _).mono ?_
    rintro e w' ⟨rfl, rfl⟩
    generalize Lib.compareBytes b.data.toList c.data.toList = y at ht ⊢
    generalize Lib.compareBytes a.data.toList c.data.toList = z at ht ⊢
    go_wp2_with fail
    refine (told_any _).mono ?_
    rintro e w' ⟨rfl, rfl⟩
    go_wp2_with fail
    refine (rcompare_any _ _ _ ha).mono ?_
    rw [HA.out]
    rintro e w1 ⟨rfl, hd⟩
    go_wp2_with fail
    refine (compare_is _ _ _ HB _).mono ?_
    rintro e w' ⟨rfl, rfl⟩
    go_wp2_with fail
    refine (above_any _ _ _).mono ?_
    rintro e w' ⟨rfl, rfl⟩
    go_wp2_with fail
    refine (rabove_any _ _ _).mono ?_
    rintro e w' ⟨rfl, rfl⟩
    by_cases hy : y ≤ 0
    · have hz := ht hy
      go_wp2
      go_ret
      exact ⟨rfl, hd.out.below⟩
    · clear ht
      go_wp2
      go_ret
      exact ⟨rfl, hd.out.below⟩
  · have HA := Lib.hid h
    have HB : Hid (Lib.compareBytes b.data.toList a.data.toList = 0) := by show _ = _; rw [HN.out, h]; rfl
    have hq : (a.toList == b.toList) = true := beq_yes (HZ.out.mp h)
    have ht : Lib.compareBytes b.data.toList c.data.toList ≤ 0 → Lib.compareBytes a.data.toList c.data.toList ≤ 0 := fun h2 => HT.out (by omega) h2
    clear h HT
    go_enter Tryd.func5, Tryd.ntmps5
    go_wp2_with fail
    refine (compare_is _ _ _ HA _).mono ?_
    rintro e w' ⟨rfl, rfl⟩
    go_wp2_with fail
    refine (compare_any _ _ _).mono ?_
    rintro e w' ⟨rfl, rfl⟩
    go_wp2_with fail
    refine (compare_any _ _ _).mono ?_
    rintro e w' ⟨rfl, rfl⟩
    generalize Lib.compareBytes b.data.toList c.data.toList = y at ht ⊢
    generalize Lib.compareBytes a.data.toList c.data.toList = z at ht ⊢
    go_wp2_with fail
    refine (told_any _).mono ?_
    rintro e w' ⟨rfl, rfl⟩
    go_wp2_with fail
    refine (rcompare_any _ _ _ ha).mono ?_
    rw [HA.out]
    rintro e w1 ⟨rfl, hd⟩
    go_wp2_with fail
    refine (compare_is _ _ _ HB _).mono ?_
    rintro e w' ⟨rfl, rfl⟩
    go_wp2_with fail
    refine (above_any _ _ _).mono ?_
    rintro e w' ⟨rfl, rfl⟩
    go_wp2_with fail
    refine (rabove_any _ _ _).mono ?_
    rintro e w' ⟨rfl, rfl⟩
    by_cases hy : y ≤ 0
    · have hz := ht hy
      go_wp2
      go_ret
      exact ⟨rfl, hd.out.below⟩
    · clear ht
      go_wp2
      go_ret
      exact ⟨rfl, hd.out.below⟩
  · have HA := Lib.hid h
    have HB : Hid (Lib.compareBytes b.data.toList a.data.toList = -1) := by show _ = _; rw [HN.out, h]
    have hq : (a.toList == b.toList) = false := beq_no (fun e => by have := HZ.out.mpr e; omega)
    clear h HT
    go_enter Tryd.func5, Tryd.ntmps5
    go_wp2_with fail
    refine (compare_is _ _ _ HA _).mono ?_
    rintro e w' ⟨rfl, rfl⟩
    go_wp2_with fail
    refine (compare_any _ _ _).mono ?_
    rintro e w' ⟨rfl, rfl⟩
    go_wp2_with fail
    refine (compare_any _ _ _).mono ?_
    rintro e w' ⟨rfl, rfl⟩
    go_wp2_with fail
    refine (told_any _).mono ?_
    rintro e w' ⟨rfl, rfl⟩
    go_wp2_with fail
    refine (rcompare_any _ _ _ ha).mono ?_
    rw [HA.out]
    rintro e w1 ⟨rfl, hd⟩
    go_wp2_with fail
    refine (compare_is _ _ _ HB _).mono ?_
    rintro e w' ⟨rfl, rfl⟩
    go_wp2_with fail
    refine (above_any _ _ _).mono ?_
    rintro e w' ⟨rfl, rfl⟩
    go_wp2_with fail
    refine (rabove_any _ _ _).mono ?_
    rintro e w' ⟨rfl, rfl⟩
    go_wp2
    go_ret
    exact ⟨rfl, hd.out.below⟩
end Go.Proofs.YthplmnoalanhjaaDoor
