/- The law IdParents walked. -/
import Derived.Test.YthplmnoalanhjaaDoorIg
namespace Go.Proofs.YthplmnoalanhjaaDoor
open Go.RowKit

theorem take_bytes {x : ByteArray} {l : List UInt8} {m : Nat} (h : x.data.toList = l.take (m + 1)) (hm : m + 1 ≤ l.length) : (x.extract 0 (x.size - 1)).data.toList = l.take m := by
  have hs : x.size = m + 1 := by rw [Lib.size_eq, h, List.length_take]; omega
  rw [Lib.extract_data, h, hs]
  simp [List.take_take]

set_option maxRecDepth 100000 in
set_option maxHeartbeats 4000000 in
theorem idParents_walk (s : ByteArray) (w : World) :
    Calls Tryd.prog 7 #[.string s] w fun e w' => e = .returned (.bool true) ∧ Below w.heap.size w w' := by
  obtain ⟨a, ha⟩ : ∃ a, ByteArray.mk (fixL s.data.toList).toArray = a := ⟨_, rfl⟩
  have HA := Lib.hid ha
  obtain ⟨l, hl⟩ : ∃ l, a.data.toList = l := ⟨_, rfl⟩
  have hal : l = fixL s.data.toList := by rw [← hl, ← ha]
  have hr : rightL l = true := by rw [hal]; exact fixL_right _
  have HR := Lib.hid hr
  have hlen : a.size = l.length := by rw [Lib.size_eq, hl]
  obtain ⟨m, hm⟩ : ∃ m, a.size = m + 1 := ⟨a.size - 1, by have := ((rightL_iff _).mp hr).1; omega⟩
  have hm5 : m ≤ 5 := by have := ((rightL_iff _).mp hr).1; omega
  have HL := Lib.hid hl
  have HM : Hid (l.length = m + 1) := by show _ = _; omega
  have HAS := Lib.hid hm
  have HRA : Hid (rightL a.data.toList = true) := by show _ = _; rw [hl]; exact hr
  clear ha hl hal hr hlen hm
  go_enter Tryd.func7, Tryd.ntmps7
  go_wp2_with fail
  refine (fix_is _ _ HA _).mono ?_
  rintro e w1 ⟨rfl, hd1⟩
  go_wp2
  go_loop [4, 5] (fun n x => ∃ (k : Nat) (y : ByteArray), k ≤ m ∧ n = .int .i64 k ∧ x = .string y ∧ Hid (y.data.toList = l.take (m - k + 1))) (fun n _ => 9 - (intOf n).toNat)
  case atStart => exact ⟨0, a, by omega, rfl, rfl, by show _ = _; rw [HL.out, Nat.sub_zero, ← HM.out, List.take_length]⟩
  case round =>
    obtain ⟨k, y, hk, rfl, rfl, HY⟩ := hrel
    have hys : y.size = m - k + 1 := by rw [Lib.size_eq, HY.out, List.length_take, HM.out]; omega
    by_cases hlt : k < m
    · have HRY : Hid (rightL y.data.toList = true) := by show _ = _; rw [HY.out]; exact take_right HR.out (by omega) (by have := HM.out; omega)
      have hq : (y.toList == [48]) = false := not_root (by omega)
      obtain ⟨z, hz⟩ : ∃ z, y.extract 0 (y.size - 1) = z := ⟨_, rfl⟩
      have hzl : z.data.toList = l.take (m - k) := by rw [← hz]; exact take_bytes HY.out (by have := HM.out; omega)
      have HZ := Lib.hid hz
      have HRZ : Hid (rightL z.data.toList = true) := by show _ = _; rw [hzl]; exact take_right HR.out (by omega) (by have := HM.out; omega)
      have hzs : z.size = m - k := by rw [Lib.size_eq, hzl, List.length_take, HM.out]; omega
      have HB1 : Hid (aboveL z.data.toList a.data.toList = true) := by show _ = _; rw [hzl, HL.out]; exact above_take HR.out (by omega) (by have := HM.out; omega)
      have HB2 : Hid (aboveL a.data.toList z.data.toList = false) := above_len (by rw [hzl, HL.out, List.length_take]; omega)
      have HZL : Hid (z.data.toList = l.take (m - (k + 1) + 1)) := by show _ = _; rw [hzl]; congr 1; omega
      have h9 : (k : Int) < 9 := by omega
      have hy1 : 1 ≤ y.size := by omega
      have hy6 : y.size ≤ 6 := by omega
      have hdz : ((z.size : Int) != (y.size : Int) - 1) = false := by simp; omega
      have hdz' : (1 : Int) ≤ (y.size : Int) := by omega
      clear hz hzl hys hzs
      go_wp2_with fail
      refine (parent_yes _ HRY hq hy1 hy6 _).mono ?_
      rw [HZ.out]
      rintro e w' ⟨rfl, rfl⟩
      go_wp2_with fail
      refine (above_is _ _ true HB1 _).mono ?_
      rintro e w' ⟨rfl, rfl⟩
      go_wp2_with fail
      refine (above_is _ _ false HB2 _).mono ?_
      rintro e w' ⟨rfl, rfl⟩
      go_wp2_with fail
      refine (depth_yes _ HRZ _).mono ?_
      rintro e w' ⟨rfl, rfl⟩
      go_wp2_with fail
      refine (depth_yes _ HRY _).mono ?_
      rintro e w' ⟨rfl, rfl⟩
      go_wp2
      go_round
      case rel => exact ⟨k + 1, z, by omega, by go_num, rfl, HZL.out⟩
      case measure => simp [intOf]; omega
    · have hy1 : y.size = 1 := by omega
      have hq : (y.toList == [48]) = true := root_of (by rw [HY.out]; exact take_right HR.out (by omega) (by have := HM.out; omega)) hy1
      have hf : ((k : Int) == (a.size : Int) - 1) = true := by have := HAS.out; simp; omega
      have ha1 : (1 : Int) ≤ (a.size : Int) := by have := HAS.out; omega
      have ha2 : (a.size : Int) ≤ 6 := by have := HAS.out; omega
      clear hys hy1
      go_wp2_with fail
      refine (told_any _).mono ?_
      rintro e w' ⟨rfl, rfl⟩
      go_wp2_with fail
      refine (depth_yes _ HRA _).mono ?_
      rintro e w' ⟨rfl, rfl⟩
      go_wp2
      go_ret
      exact ⟨rfl, hd1.out.below⟩
end Go.Proofs.YthplmnoalanhjaaDoor
