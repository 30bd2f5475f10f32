/- The names of layer 1: what Compare and the document's Compare, Above, Child and Fix answer. -/
import Derived.Test.YthplmnoalanhjaaDoorIb
namespace Go.Proofs.YthplmnoalanhjaaDoor
open Go.RowKit

set_option maxHeartbeats 400000 in
theorem compare_in (a b : ByteArray) (w : World) :
    Calls Tryd.prog 39 #[.string a, .string b] w fun e w' => e = .returned (.int .i64 (Lib.compareBytes a.data.toList b.data.toList)) ∧ w = w' := by
  go_enter Tryd.func39, Tryd.ntmps39
  go_wp2
  rw [run_callFunc_extern Tryd.func45 (by kernel_rfl) (by kernel_rfl) (by kernel_rfl) (e := Extern.BytealgCompare.compare) (by kernel_rfl), Lib.run_compareString]
  simp only [Result.andThen]
  rw [Oper.upon_value]
  go_wp2
  go_ret
  exact ⟨rfl, rfl⟩
set_option maxHeartbeats 400000 in
theorem compare_mid (a b : ByteArray) (w : World) :
    Calls Tryd.prog 32 #[.string a, .string b] w fun e w' => e = .returned (.int .i64 (Lib.compareBytes a.data.toList b.data.toList)) ∧ w = w' := by
  go_enter Tryd.func32, Tryd.ntmps32
  go_wp2_with (go_at_call 39; refine (compare_in _ _ _).mono ?_; rintro e w' ⟨rfl, rfl⟩)
  go_ret
  exact ⟨rfl, rfl⟩
set_option maxHeartbeats 400000 in
theorem compare_any (a b : ByteArray) (w : World) :
    Calls Tryd.prog 18 #[.string a, .string b] w fun e w' => e = .returned (.int .i64 (Lib.compareBytes a.data.toList b.data.toList)) ∧ w = w' := by
  go_enter Tryd.func18, Tryd.ntmps18
  go_wp2_with (go_at_call 32; refine (compare_mid _ _ _).mono ?_; rintro e w' ⟨rfl, rfl⟩)
  go_ret
  exact ⟨rfl, rfl⟩
theorem compare_is (a b : ByteArray) (x : Int) (h : Hid (Lib.compareBytes a.data.toList b.data.toList = x)) (w : World) :
    Calls Tryd.prog 18 #[.string a, .string b] w fun e w' => e = .returned (.int .i64 x) ∧ w = w' := by
  rw [← h.out]; exact compare_any a b w

/-- A world with some draws more. -/
def Drawn (w w' : World) : Prop := ∃ n, w' = w.drewN n
theorem Drawn.refl (w : World) : Drawn w w := ⟨0, rfl⟩
theorem Drawn.more {w w1 : World} (h : Drawn w w1) (n : Nat) : Drawn w (w1.drewN n) := by
  obtain ⟨m, rfl⟩ := h
  exact ⟨m + n, by simp [World.drewN]; omega⟩

set_option maxHeartbeats 1000000 in
theorem rcompare_any (a b : ByteArray) (w : World) (ha : a.size ≤ 9223372036854775807) :
    Calls Tryd.prog 19 #[.string a, .string b] w fun e w' => e = .returned (.int .i64 (Lib.compareBytes a.data.toList b.data.toList)) ∧ Hid (Drawn w w') := by
  have la : a.data.toList.length = a.size := by simp
  have lb : b.data.toList.length = b.size := by simp
  have LA := Lib.hid la
  have LB := Lib.hid lb
  clear la lb
  go_enter Tryd.func19, Tryd.ntmps19
  go_wp2
  go_loopw [5] (fun i wr => ∃ k : Nat, k ≤ a.size ∧ k ≤ b.size ∧ i = .int .i64 k ∧ Hid (Lib.compareBytes a.data.toList b.data.toList = Lib.compareBytes (a.data.toList.drop k) (b.data.toList.drop k)) ∧ Hid (Drawn w wr)) (fun i _ => a.size - (intOf i).toNat)
  case atStart => exact ⟨0, by omega, by omega, rfl, rfl, Drawn.refl w⟩
  case round =>
    obtain ⟨k, hka, hkb, rfl, HC, HD⟩ := hrel
    by_cases h1 : k < a.size
    · by_cases h2 : k < b.size
      · have ea := Lib.hid (at8_lt a k h1)
        have eb := Lib.hid (at8_lt b k h2)
        by_cases c1 : (a[k].toNat : Int) < (b[k].toNat : Int)
        · go_wp2
          go_quiet (fail)
          go_wp2
          go_ret
          exact ⟨ret_int (by rw [HC.out, cmp_lo (by have := LA.out; omega) (by have := LB.out; omega) (by have := ea.out; have := eb.out; omega)]), HD.out.more _⟩
        · by_cases c2 : (b[k].toNat : Int) < (a[k].toNat : Int)
          · go_wp2
            go_quiet (fail)
            go_wp2
            go_quiet (fail)
            go_wp2
            go_ret
            exact ⟨ret_int (by rw [HC.out, cmp_hi (by have := LA.out; omega) (by have := LB.out; omega) (by have := ea.out; have := eb.out; omega)]), (HD.out.more _).more _⟩
          · go_wp2
            go_quiet (fail)
            go_wp2
            go_quiet (fail)
            go_wp2
            go_roundw
            case rel =>
              exact ⟨k + 1, by omega, by omega, by go_num, by show _ = _; rw [HC.out, cmp_eq (by have := LA.out; omega) (by have := LB.out; omega) (by have := ea.out; have := eb.out; omega)], HD.out.more _⟩
            case measure => simp [intOf]; omega
      · have HE : Hid (Lib.compareBytes a.data.toList b.data.toList = if a.data.toList.length < b.data.toList.length then -1 else if b.data.toList.length < a.data.toList.length then 1 else 0) := by
          show _ = _
          rw [HC.out]; exact cmp_end (Or.inr (by have := LB.out; omega)) (by have := LA.out; omega) (by have := LB.out; omega)
        have c1 : ¬ a.size < b.size := by omega
        have c2 : b.size < a.size := by omega
        go_wp2
        go_ret
        exact ⟨ret_int (by rw [HE.out, if_neg (by have := LA.out; have := LB.out; omega), if_pos (by have := LA.out; have := LB.out; omega)]), HD.out⟩
    · have HE : Hid (Lib.compareBytes a.data.toList b.data.toList = if a.data.toList.length < b.data.toList.length then -1 else if b.data.toList.length < a.data.toList.length then 1 else 0) := by
        show _ = _
        rw [HC.out]; exact cmp_end (Or.inl (by have := LA.out; omega)) (by have := LA.out; omega) (by have := LB.out; omega)
      by_cases c1 : a.size < b.size
      · go_wp2
        go_ret
        exact ⟨ret_int (by rw [HE.out, if_pos (by have := LA.out; have := LB.out; omega)]), HD.out⟩
      · have c2 : ¬ b.size < a.size := by omega
        go_wp2
        go_ret
        exact ⟨ret_int (by rw [HE.out, if_neg (by have := LA.out; have := LB.out; omega), if_neg (by have := LA.out; have := LB.out; omega)]), HD.out⟩

set_option maxHeartbeats 1000000 in
theorem rabove_any (a b : ByteArray) (w : World) :
    Calls Tryd.prog 20 #[.string a, .string b] w fun e w' => e = .returned (.bool (aboveL a.data.toList b.data.toList)) ∧ w = w' := by
  have ha : a.data.toList.length = a.size := by simp
  have hb : b.data.toList.length = b.size := by simp
  cases hra : rightL a.data.toList
  · have HA := Lib.hid hra
    have HR : Hid (aboveL a.data.toList b.data.toList = false) := by show aboveL _ _ = _; unfold aboveL; rw [hra]; rfl
    clear hra ha hb
    go_enter Tryd.func20, Tryd.ntmps20
    go_wp2_with fail
    refine (rright_is _ false HA _).mono ?_
    rintro e w' ⟨rfl, rfl⟩
    go_wp2
    go_ret
    exact ⟨ret_bool HR.out.symm, rfl⟩
  cases hrb : rightL b.data.toList
  · have HA := Lib.hid hra
    have HB := Lib.hid hrb
    have HR : Hid (aboveL a.data.toList b.data.toList = false) := by show aboveL _ _ = _; unfold aboveL; rw [hra, hrb]; rfl
    clear hra ha hrb hb
    go_enter Tryd.func20, Tryd.ntmps20
    go_wp2_with fail
    refine (rright_is _ true HA _).mono ?_
    rintro e w' ⟨rfl, rfl⟩
    go_wp2_with fail
    refine (rright_is _ false HB _).mono ?_
    rintro e w' ⟨rfl, rfl⟩
    go_wp2
    go_ret
    exact ⟨ret_bool HR.out.symm, rfl⟩
  have HA := Lib.hid hra
  have HB := Lib.hid hrb
  by_cases hlt : a.size < b.size
  · have HR : Hid (aboveL a.data.toList b.data.toList = ((b.extract 0 a.size).toList == a.toList)) := by
      show aboveL _ _ = _
      unfold aboveL
      rw [hra, hrb, ← Lib.hasPrefix_raw]
      have h2 : a.size ≤ b.size := by omega
      simp [hlt, h2]
    have hle : a.size ≤ b.size := by omega
    clear hra ha hrb hb
    go_enter Tryd.func20, Tryd.ntmps20
    go_wp2_with fail
    refine (rright_is _ true HA _).mono ?_
    rintro e w' ⟨rfl, rfl⟩
    go_wp2_with fail
    refine (rright_is _ true HB _).mono ?_
    rintro e w' ⟨rfl, rfl⟩
    go_wp2
    go_ret
    exact ⟨ret_bool HR.out.symm, rfl⟩
  · have HR : Hid (aboveL a.data.toList b.data.toList = false) := by show aboveL _ _ = _; unfold aboveL; rw [hra, hrb]; simp [hlt]
    clear hra ha hrb hb
    go_enter Tryd.func20, Tryd.ntmps20
    go_wp2_with fail
    refine (rright_is _ true HA _).mono ?_
    rintro e w' ⟨rfl, rfl⟩
    go_wp2_with fail
    refine (rright_is _ true HB _).mono ?_
    rintro e w' ⟨rfl, rfl⟩
    go_wp2
    go_ret
    exact ⟨ret_bool HR.out.symm, rfl⟩

set_option maxHeartbeats 400000 in
theorem rchild_no (s : ByteArray) (n : Int) (h : Hid (rightL s.data.toList = false)) (w : World) :
    Calls Tryd.prog 16 #[.string s, .int .i64 n] w fun e w' => e = .returned (.tuple #[.string ⟨#[]⟩, .int .i64 4]) ∧ w = w' := by
  go_enter Tryd.func16, Tryd.ntmps16
  go_wp2_with (go_at_call 9; refine (rright_is _ false h _).mono ?_; rintro e w' ⟨rfl, rfl⟩)
  go_ret2
  exact ⟨rfl, rfl⟩
set_option maxHeartbeats 400000 in
theorem rchild_arg (s : ByteArray) (n : Int) (h : Hid (rightL s.data.toList = true)) (hn : n < 1 ∨ 9 < n) (w : World) :
    Calls Tryd.prog 16 #[.string s, .int .i64 n] w fun e w' => e = .returned (.tuple #[.string ⟨#[]⟩, .int .i64 1]) ∧ w = w' := by
  by_cases h1 : n < 1
  · clear hn
    go_enter Tryd.func16, Tryd.ntmps16
    go_wp2_with (go_at_call 9; refine (rright_is _ true h _).mono ?_; rintro e w' ⟨rfl, rfl⟩)
    go_ret2
    exact ⟨rfl, rfl⟩
  · have h9 : 9 < n := by omega
    clear hn
    go_enter Tryd.func16, Tryd.ntmps16
    go_wp2_with (go_at_call 9; refine (rright_is _ true h _).mono ?_; rintro e w' ⟨rfl, rfl⟩)
    go_ret2
    exact ⟨rfl, rfl⟩
set_option maxHeartbeats 400000 in
theorem rchild_full (s : ByteArray) (n : Int) (h : Hid (rightL s.data.toList = true)) (h1 : 1 ≤ n) (h2 : n ≤ 9) (h6 : s.size = 6) (w : World) :
    Calls Tryd.prog 16 #[.string s, .int .i64 n] w fun e w' => e = .returned (.tuple #[.string ⟨#[]⟩, .int .i64 18]) ∧ w = w' := by
  have g1 : ¬ n < 1 := by omega
  have g2 : ¬ 9 < n := by omega
  have g3 : ((s.size : Int) == 6) = true := by simp; omega
  clear h6
  go_enter Tryd.func16, Tryd.ntmps16
  go_wp2_with (go_at_call 9; refine (rright_is _ true h _).mono ?_; rintro e w' ⟨rfl, rfl⟩)
  go_ret2
  exact ⟨rfl, rfl⟩
set_option maxHeartbeats 2000000 in
theorem rchild_yes (s : ByteArray) (n : Int) (h : Hid (rightL s.data.toList = true)) (h1 : 1 ≤ n) (h2 : n ≤ 9) (h6 : s.size < 6) (w : World) :
    Calls Tryd.prog 16 #[.string s, .int .i64 n] w fun e w' => e = .returned (.tuple #[.string (s ++ digit n), .int .i64 0]) ∧ w = w' := by
  have g3 : ((s.size : Int) == 6) = false := by simp; omega
  rcases nine h1 h2 with rfl | rfl | rfl | rfl | rfl | rfl | rfl | rfl | rfl
  all_goals
    clear h1 h2
    go_enter Tryd.func16, Tryd.ntmps16
    go_wp2_with (go_at_call 9; refine (rright_is _ true h _).mono ?_; rintro e w' ⟨rfl, rfl⟩)
    go_ret2
    exact ⟨rfl, rfl⟩
end Go.Proofs.YthplmnoalanhjaaDoor
