/- The names of layer 1: what Parse, Parent, Depth, Child and Above answer; the law's own little check 'told'. -/
import Derived.Test.YtkdeiljbjpefhaaDoorIa
import Derived.Test.YtkdeiljbjpefhaaDoorIn
namespace Go.Proofs.YtkdeiljbjpefhaaDoor
open Go.RowKit

set_option maxHeartbeats 400000 in
theorem depth_yes (s : ByteArray) (h : Hid (rightL s.data.toList = true)) (w : World) :
    Calls Tryd.prog 20 #[.string s] w fun e w' => e = .returned (.int .i64 s.size) ∧ w = w' := by
  go_enter Tryd.func20, Tryd.ntmps20
  go_wp2_with (go_at_call 21; refine (right_is _ true h _).mono ?_; rintro e w' ⟨rfl, rfl⟩)
  go_ret
  exact ⟨rfl, rfl⟩
set_option maxHeartbeats 400000 in
theorem depth_no (s : ByteArray) (h : Hid (rightL s.data.toList = false)) (w : World) :
    Calls Tryd.prog 20 #[.string s] w fun e w' => e = .returned (.int .i64 0) ∧ w = w' := by
  go_enter Tryd.func20, Tryd.ntmps20
  go_wp2_with (go_at_call 21; refine (right_is _ false h _).mono ?_; rintro e w' ⟨rfl, rfl⟩)
  go_ret
  exact ⟨rfl, rfl⟩

set_option maxHeartbeats 400000 in
theorem parent_no (s : ByteArray) (h : Hid (rightL s.data.toList = false)) (w : World) :
    Calls Tryd.prog 18 #[.string s] w fun e w' => e = .returned (.tuple #[.string ⟨#[]⟩, .int .i64 4]) ∧ w = w' := by
  go_enter Tryd.func18, Tryd.ntmps18
  go_wp2_with (go_at_call 21; refine (right_is _ false h _).mono ?_; rintro e w' ⟨rfl, rfl⟩)
  go_ret2
  exact ⟨rfl, rfl⟩
set_option maxHeartbeats 400000 in
theorem parent_root (s : ByteArray) (h : Hid (rightL s.data.toList = true)) (hr : (s.toList == [48]) = true) (w : World) :
    Calls Tryd.prog 18 #[.string s] w fun e w' => e = .returned (.tuple #[.string ⟨#[]⟩, .int .i64 14]) ∧ w = w' := by
  go_enter Tryd.func18, Tryd.ntmps18
  go_wp2_with (go_at_call 21; refine (right_is _ true h _).mono ?_; rintro e w' ⟨rfl, rfl⟩)
  go_ret2
  exact ⟨rfl, rfl⟩
set_option maxHeartbeats 400000 in
theorem parent_yes (s : ByteArray) (h : Hid (rightL s.data.toList = true)) (hr : (s.toList == [48]) = false) (h1 : 1 ≤ s.size) (h2 : s.size ≤ 6) (w : World) :
    Calls Tryd.prog 18 #[.string s] w fun e w' => e = .returned (.tuple #[.string (s.extract 0 (s.size - 1)), .int .i64 0]) ∧ w = w' := by
  have hx : (1 : Int) ≤ (s.size : Int) := by omega
  have hy : (0 : Int) ≤ (s.size : Int) - 1 := by omega
  have hz : (s.size : Int) - 1 ≤ s.size := by omega
  have ht : ((s.size : Int) - 1).toNat = s.size - 1 := by omega
  go_enter Tryd.func18, Tryd.ntmps18
  go_wp2_with (go_at_call 21; refine (right_is _ true h _).mono ?_; rintro e w' ⟨rfl, rfl⟩)
  go_ret2
  exact ⟨rfl, rfl⟩

/-- The one byte of a number's digit. -/
def digit (n : Int) : ByteArray := ⟨#[UInt8.ofNat (48 + n.toNat)]⟩
theorem nine {n : Int} (h1 : 1 ≤ n) (h2 : n ≤ 9) : n = 1 ∨ n = 2 ∨ n = 3 ∨ n = 4 ∨ n = 5 ∨ n = 6 ∨ n = 7 ∨ n = 8 ∨ n = 9 := by omega

set_option maxHeartbeats 400000 in
theorem small_any (n : Int) (h1 : 1 ≤ n) (h2 : n ≤ 9) (w : World) :
    Calls Tryd.prog 52 #[.int .i64 n] w fun e w' => e = .returned (.string (digit n)) ∧ w = w' := by
  rcases nine h1 h2 with rfl | rfl | rfl | rfl | rfl | rfl | rfl | rfl | rfl
  all_goals
    clear h1 h2
    go_enter Tryd.func52, Tryd.ntmps52
    go_wp2
    go_ret
    exact ⟨rfl, rfl⟩
set_option maxHeartbeats 400000 in
theorem itoa_any (n : Int) (h1 : 1 ≤ n) (h2 : n ≤ 9) (w : World) :
    Calls Tryd.prog 28 #[.int .i64 n] w fun e w' => e = .returned (.string (digit n)) ∧ w = w' := by
  have f : ∀ w, Calls Tryd.prog 50 #[.int .i64 n, .int .i64 10] w fun e w' => e = .returned (.string (digit n)) ∧ w = w' := by
    intro w
    have a1 : (0 : Int) ≤ n := by omega
    have a2 : n < (100 : Int) := by omega
    go_enter Tryd.func50, Tryd.ntmps50
    go_wp2_with (go_at_call 52; refine (small_any _ h1 h2 _).mono ?_; rintro e w' ⟨rfl, rfl⟩)
    go_ret
    exact ⟨rfl, rfl⟩
  have F := Lib.hid f
  clear f
  have g : ∀ w, Calls Tryd.prog 42 #[.int .i64 n] w fun e w' => e = .returned (.string (digit n)) ∧ w = w' := by
    intro w
    go_enter Tryd.func42, Tryd.ntmps42
    go_wp2_with (go_at_call 50; refine (F.out _).mono ?_; rintro e w' ⟨rfl, rfl⟩)
    go_ret
    exact ⟨rfl, rfl⟩
  have G := Lib.hid g
  clear g
  go_enter Tryd.func28, Tryd.ntmps28
  go_wp2_with (go_at_call 42; refine (G.out _).mono ?_; rintro e w' ⟨rfl, rfl⟩)
  go_ret
  exact ⟨rfl, rfl⟩

set_option maxHeartbeats 400000 in
theorem child_no (s : ByteArray) (n : Int) (h : Hid (rightL s.data.toList = false)) (w : World) :
    Calls Tryd.prog 17 #[.string s, .int .i64 n] w fun e w' => e = .returned (.tuple #[.string ⟨#[]⟩, .int .i64 4]) ∧ w = w' := by
  go_enter Tryd.func17, Tryd.ntmps17
  go_wp2_with (go_at_call 21; refine (right_is _ false h _).mono ?_; rintro e w' ⟨rfl, rfl⟩)
  go_ret2
  exact ⟨rfl, rfl⟩
set_option maxHeartbeats 400000 in
theorem child_arg (s : ByteArray) (n : Int) (h : Hid (rightL s.data.toList = true)) (hn : n < 1 ∨ 9 < n) (w : World) :
    Calls Tryd.prog 17 #[.string s, .int .i64 n] w fun e w' => e = .returned (.tuple #[.string ⟨#[]⟩, .int .i64 1]) ∧ w = w' := by
  by_cases h1 : n < 1
  · clear hn
    go_enter Tryd.func17, Tryd.ntmps17
    go_wp2_with (go_at_call 21; refine (right_is _ true h _).mono ?_; rintro e w' ⟨rfl, rfl⟩)
    go_ret2
    exact ⟨rfl, rfl⟩
  · have h9 : 9 < n := by omega
    clear hn
    go_enter Tryd.func17, Tryd.ntmps17
    go_wp2_with (go_at_call 21; refine (right_is _ true h _).mono ?_; rintro e w' ⟨rfl, rfl⟩)
    go_ret2
    exact ⟨rfl, rfl⟩
set_option maxHeartbeats 400000 in
theorem child_full (s : ByteArray) (n : Int) (h : Hid (rightL s.data.toList = true)) (h1 : 1 ≤ n) (h2 : n ≤ 9) (h6 : s.size = 6) (w : World) :
    Calls Tryd.prog 17 #[.string s, .int .i64 n] w fun e w' => e = .returned (.tuple #[.string ⟨#[]⟩, .int .i64 18]) ∧ w = w' := by
  have g1 : ¬ n < 1 := by omega
  have g2 : ¬ 9 < n := by omega
  have g3 : ((s.size : Int) == 6) = true := by simp; omega
  clear h6
  go_enter Tryd.func17, Tryd.ntmps17
  go_wp2_with (go_at_call 21; refine (right_is _ true h _).mono ?_; rintro e w' ⟨rfl, rfl⟩)
  go_ret2
  exact ⟨rfl, rfl⟩
set_option maxHeartbeats 400000 in
theorem child_yes (s : ByteArray) (n : Int) (h : Hid (rightL s.data.toList = true)) (h1 : 1 ≤ n) (h2 : n ≤ 9) (h6 : s.size < 6) (w : World) :
    Calls Tryd.prog 17 #[.string s, .int .i64 n] w fun e w' => e = .returned (.tuple #[.string (s ++ digit n), .int .i64 0]) ∧ w = w' := by
  have g1 : ¬ n < 1 := by omega
  have g2 : ¬ 9 < n := by omega
  have g3 : ((s.size : Int) == 6) = false := by simp; omega
  have g4 : ¬ (s.size + (digit n).size > 9223372036854775807) := by have : (digit n).size = 1 := rfl; omega
  go_enter Tryd.func17, Tryd.ntmps17
  go_wp2_with (first | (go_at_call 21; refine (right_is _ true h _).mono ?_; rintro e w' ⟨rfl, rfl⟩) | (go_at_call 28; refine (itoa_any _ h1 h2 _).mono ?_; rintro e w' ⟨rfl, rfl⟩))
  go_ret2
  exact ⟨rfl, rfl⟩

set_option maxHeartbeats 1000000 in
theorem above_any (a b : ByteArray) (w : World) :
    Calls Tryd.prog 19 #[.string a, .string b] w fun e w' => e = .returned (.bool (aboveL a.data.toList b.data.toList)) ∧ w = w' := by
  have ha : a.data.toList.length = a.size := by simp
  have hb : b.data.toList.length = b.size := by simp
  cases hra : rightL a.data.toList
  · have HA := Lib.hid hra
    have HR : Hid (aboveL a.data.toList b.data.toList = false) := by show aboveL _ _ = _; unfold aboveL; rw [hra]; rfl
    clear hra ha hb
    go_enter Tryd.func19, Tryd.ntmps19
    go_wp2_with (go_at_call 21; refine (right_is _ false HA _).mono ?_; rintro e w' ⟨rfl, rfl⟩)
    go_ret
    exact ⟨ret_bool HR.out.symm, rfl⟩
  cases hrb : rightL b.data.toList
  · have HA := Lib.hid hra
    have HB := Lib.hid hrb
    have HR : Hid (aboveL a.data.toList b.data.toList = false) := by show aboveL _ _ = _; unfold aboveL; rw [hra, hrb]; rfl
    clear hra ha hrb hb
    go_enter Tryd.func19, Tryd.ntmps19
    go_wp2_with fail
    refine (right_is _ true HA _).mono ?_
    rintro e w' ⟨rfl, rfl⟩
    go_wp2_with fail
    refine (right_is _ false HB _).mono ?_
    rintro e w' ⟨rfl, rfl⟩
    go_wp2
    go_ret
    exact ⟨ret_bool HR.out.symm, rfl⟩
  have HA := Lib.hid hra
  have HB := Lib.hid hrb
  by_cases hlt : a.size < b.size
  · have HR : Hid (aboveL a.data.toList b.data.toList = Lib.hasPrefix b.data.toList a.data.toList) := by show aboveL _ _ = _; unfold aboveL; rw [hra, hrb]; simp [hlt]
    clear hra ha hrb hb
    go_enter Tryd.func19, Tryd.ntmps19
    go_wp2_with fail
    refine (right_is _ true HA _).mono ?_
    rintro e w' ⟨rfl, rfl⟩
    go_wp2_with fail
    refine (right_is _ true HB _).mono ?_
    rintro e w' ⟨rfl, rfl⟩
    go_wp2_with fail
    refine (hasPrefix_any _ _ _).mono ?_
    rintro e w' ⟨rfl, rfl⟩
    go_wp2
    go_ret
    exact ⟨ret_bool HR.out.symm, rfl⟩
  · have HR : Hid (aboveL a.data.toList b.data.toList = false) := by show aboveL _ _ = _; unfold aboveL; rw [hra, hrb]; simp [hlt]
    clear hra ha hrb hb
    go_enter Tryd.func19, Tryd.ntmps19
    go_wp2_with fail
    refine (right_is _ true HA _).mono ?_
    rintro e w' ⟨rfl, rfl⟩
    go_wp2_with fail
    refine (right_is _ true HB _).mono ?_
    rintro e w' ⟨rfl, rfl⟩
    go_wp2
    go_ret
    exact ⟨ret_bool HR.out.symm, rfl⟩
theorem above_is (a b : ByteArray) (r : Bool) (h : Hid (aboveL a.data.toList b.data.toList = r)) (w : World) :
    Calls Tryd.prog 19 #[.string a, .string b] w fun e w' => e = .returned (.bool r) ∧ w = w' := by
  rw [← h.out]; exact above_any a b w

set_option maxHeartbeats 1000000 in
theorem told_any (w : World) : Calls Tryd.prog 8 #[] w fun e w' => e = .returned (.bool true) ∧ w = w' := by
  have HR1 : Hid (rightL (ByteArray.mk #[48, 49]).data.toList = true) := by show _ = _; decide
  have HR3 : Hid (rightL (ByteArray.mk #[48, 49, 51]).data.toList = true) := by show _ = _; decide
  have HR0 : Hid (rightL (ByteArray.mk #[48]).data.toList = true) := by show _ = _; decide
  have HA1 : Hid (aboveL (ByteArray.mk #[48]).data.toList (ByteArray.mk #[48, 49, 51]).data.toList = true) := by show _ = _; decide
  have HA2 : Hid (aboveL (ByteArray.mk #[48, 49, 51]).data.toList (ByteArray.mk #[48, 49, 51]).data.toList = false) := by show _ = _; decide
  have hc : (ByteArray.mk #[48, 49]) ++ digit 3 = ByteArray.mk #[48, 49, 51] := by decide
  have hx : (ByteArray.mk #[48, 49, 51]).extract 0 ((ByteArray.mk #[48, 49, 51]).size - 1) = ByteArray.mk #[48, 49] := by decide
  have HC := Lib.hid hc
  have HX := Lib.hid hx
  clear hc hx
  go_enter Tryd.func8, Tryd.ntmps8
  go_wp2_with fail
  refine (child_yes _ 3 HR1 (by omega) (by omega) (by decide) _).mono ?_
  rw [HC.out]
  rintro e w' ⟨rfl, rfl⟩
  go_wp2_with fail
  refine (parent_yes _ HR3 (by rw [Go.ByteArray.toList_eq]; decide) (by decide) (by decide) _).mono ?_
  rw [HX.out]
  rintro e w' ⟨rfl, rfl⟩
  go_wp2_with fail
  refine (above_is _ _ true HA1 _).mono ?_
  rintro e w' ⟨rfl, rfl⟩
  go_wp2_with fail
  refine (above_is _ _ false HA2 _).mono ?_
  rintro e w' ⟨rfl, rfl⟩
  go_wp2_with fail
  refine (depth_yes _ HR3 _).mono ?_
  rintro e w' ⟨rfl, rfl⟩
  go_wp2_with fail
  refine (right_is _ true HR0 _).mono ?_
  rintro e w' ⟨rfl, rfl⟩
  go_wp2
  go_ret
  exact ⟨rfl, rfl⟩
end Go.Proofs.YtkdeiljbjpefhaaDoor
