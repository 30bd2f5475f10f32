/- The law IdNames walked: whatever the text, the call returns true and changes nothing. -/
import Derived.Test.YthplmnoalanhjaaDoorIb
namespace Go.Proofs.YthplmnoalanhjaaDoor
open Go.RowKit

theorem right_size {s : ByteArray} (h : rightL s.data.toList = true) : 1 ≤ s.size ∧ s.size ≤ 6 := by
  have := (rightL_iff _).mp h
  exact ⟨by simpa using this.1.1, by simpa using this.1.2.1⟩
theorem root_of {s : ByteArray} (h : rightL s.data.toList = true) (h1 : s.size = 1) : (s.toList == [48]) = true := by
  have := ((rightL_iff _).mp h).1.2.2
  rw [Go.ByteArray.toList_eq]
  obtain ⟨⟨l⟩⟩ := s
  match l, h1 with
  | [c], _ =>
    simp [at8] at this
    simp
    exact UInt8.toNat_inj.mp (by simpa using this)
theorem not_root {s : ByteArray} (h1 : 1 < s.size) : (s.toList == [48]) = false := by
  rw [Go.ByteArray.toList_eq]
  obtain ⟨⟨l⟩⟩ := s
  match l, h1 with
  | a :: b :: r, _ => simp

set_option maxHeartbeats 1000000 in
theorem idNames_pure (s : ByteArray) (w : World) :
    Calls Tryd.prog 3 #[.string s] w fun e w' => e = .returned (.bool true) ∧ w = w' := by
  cases hr : rightL s.data.toList
  · have HR := Lib.hid hr
    clear hr
    go_enter Tryd.func3, Tryd.ntmps3
    go_wp2_with fail
    refine (rright_is _ false HR _).mono ?_
    rintro e w' ⟨rfl, rfl⟩
    go_wp2_with fail
    refine (parse_no _ HR _).mono ?_
    rintro e w' ⟨rfl, rfl⟩
    go_wp2_with fail
    refine (parent_no _ HR _).mono ?_
    rintro e w' ⟨rfl, rfl⟩
    go_wp2_with fail
    refine (told_any _).mono ?_
    rintro e w' ⟨rfl, rfl⟩
    go_wp2_with fail
    refine (right_is _ false HR _).mono ?_
    rintro e w' ⟨rfl, rfl⟩
    go_wp2_with fail
    refine (depth_no _ HR _).mono ?_
    rintro e w' ⟨rfl, rfl⟩
    go_wp2
    go_ret
    exact ⟨rfl, rfl⟩
  · have HR := Lib.hid hr
    obtain ⟨h1, h6⟩ := right_size hr
    by_cases hs : s.size = 1
    · have hq := root_of hr hs
      have hi : ((s.size : Int) == 1) = true := by simp [hs]
      clear hr hs
      go_enter Tryd.func3, Tryd.ntmps3
      go_wp2_with fail
      refine (rright_is _ true HR _).mono ?_
      rintro e w' ⟨rfl, rfl⟩
      go_wp2_with fail
      refine (parse_yes _ HR _).mono ?_
      rintro e w' ⟨rfl, rfl⟩
      go_wp2_with fail
      refine (parent_root _ HR hq _).mono ?_
      rintro e w' ⟨rfl, rfl⟩
      go_wp2_with fail
      refine (told_any _).mono ?_
      rintro e w' ⟨rfl, rfl⟩
      go_wp2_with fail
      refine (right_is _ true HR _).mono ?_
      rintro e w' ⟨rfl, rfl⟩
      go_wp2_with fail
      refine (depth_yes _ HR _).mono ?_
      rintro e w' ⟨rfl, rfl⟩
      go_wp2
      go_ret
      exact ⟨rfl, rfl⟩
    · have hq := not_root (s := s) (by omega)
      have hi : ((s.size : Int) == 1) = false := by simp; omega
      have hx : (1 : Int) ≤ (s.size : Int) := by omega
      have hy : (0 : Int) ≤ (s.size : Int) - 1 := by omega
      have hz : (s.size : Int) - 1 ≤ s.size := by omega
      have ht : ((s.size : Int) - 1).toNat = s.size - 1 := by omega
      clear hr hs
      go_enter Tryd.func3, Tryd.ntmps3
      go_wp2_with fail
      refine (rright_is _ true HR _).mono ?_
      rintro e w' ⟨rfl, rfl⟩
      go_wp2_with fail
      refine (parse_yes _ HR _).mono ?_
      rintro e w' ⟨rfl, rfl⟩
      go_wp2_with fail
      refine (parent_yes _ HR hq h1 h6 _).mono ?_
      rintro e w' ⟨rfl, rfl⟩
      go_wp2_with fail
      refine (told_any _).mono ?_
      rintro e w' ⟨rfl, rfl⟩
      go_wp2_with fail
      refine (right_is _ true HR _).mono ?_
      rintro e w' ⟨rfl, rfl⟩
      go_wp2_with fail
      refine (depth_yes _ HR _).mono ?_
      rintro e w' ⟨rfl, rfl⟩
      go_wp2
      go_ret
      exact ⟨rfl, rfl⟩
theorem idNames_walk (s : ByteArray) (w : World) :
    Calls Tryd.prog 3 #[.string s] w fun e w' => e = .returned (.bool true) ∧ Below w.heap.size w w' :=
  (idNames_pure s w).mono fun _ _ ⟨he, hw⟩ => ⟨he, hw ▸ Below.refl _ _⟩
end Go.Proofs.YthplmnoalanhjaaDoor
