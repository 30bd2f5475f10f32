/- The names of layer 1: what Compare and the document's Compare answer. -/
import Derived.Test.YtpaiigminmakgaaIa
import Derived.Test.YtpaiigminmakgaaIn
namespace Go.Proofs.Ytpaiigminmakgaa
open Go.RowKit

set_option maxRecDepth 100000 in
set_option maxHeartbeats 400000 in
theorem compare_in (a b : ByteArray) (w : World) :
    Calls Try.prog 94 #[.string a, .string b] w fun e w' => e = .returned (.int .i64 (Lib.compareBytes a.data.toList b.data.toList)) ∧ w = w' := by
  go_enter Try.func94, Try.ntmps94
  go_wp2
  rw [run_callFunc_extern Try.func100 (by kernel_rfl) (by kernel_rfl) (by kernel_rfl) (e := Extern.BytealgCompare.compare) (by kernel_rfl), Lib.run_compareString]
  simp only [Result.andThen]
  rw [Oper.upon_value]
  go_wp2
  go_ret
  exact ⟨rfl, rfl⟩
set_option maxRecDepth 100000 in
set_option maxHeartbeats 400000 in
theorem compare_mid (a b : ByteArray) (w : World) :
    Calls Try.prog 87 #[.string a, .string b] w fun e w' => e = .returned (.int .i64 (Lib.compareBytes a.data.toList b.data.toList)) ∧ w = w' := by
  go_enter Try.func87, Try.ntmps87
  go_wp2_with (go_at_call 94; refine (compare_in _ _ _).mono ?_; rintro e w' ⟨rfl, rfl⟩)
  go_ret
  exact ⟨rfl, rfl⟩
set_option maxRecDepth 100000 in
set_option maxHeartbeats 400000 in
theorem compare_any (a b : ByteArray) (w : World) :
    Calls Try.prog 78 #[.string a, .string b] w fun e w' => e = .returned (.int .i64 (Lib.compareBytes a.data.toList b.data.toList)) ∧ w = w' := by
  go_enter Try.func78, Try.ntmps78
  go_wp2_with (go_at_call 87; refine (compare_mid _ _ _).mono ?_; rintro e w' ⟨rfl, rfl⟩)
  go_ret
  exact ⟨rfl, rfl⟩
theorem compare_is (a b : ByteArray) (x : Int) (h : Hid (Lib.compareBytes a.data.toList b.data.toList = x)) (w : World) :
    Calls Try.prog 78 #[.string a, .string b] w fun e w' => e = .returned (.int .i64 x) ∧ w = w' := by
  rw [← h.out]; exact compare_any a b w

/-- A world with some draws more. -/
def Drawn (w w' : World) : Prop := ∃ n, w' = w.drewN n
theorem Drawn.refl (w : World) : Drawn w w := ⟨0, rfl⟩
theorem Drawn.more {w w1 : World} (h : Drawn w w1) (n : Nat) : Drawn w (w1.drewN n) := by
  obtain ⟨m, rfl⟩ := h
  exact ⟨m + n, by simp [World.drewN]; omega⟩

set_option maxRecDepth 100000 in
set_option maxHeartbeats 1000000 in
theorem rcompare_any (a b : ByteArray) (w : World) (ha : a.size ≤ 9223372036854775807) :
    Calls Try.prog 55 #[.string a, .string b] w fun e w' => e = .returned (.int .i64 (Lib.compareBytes a.data.toList b.data.toList)) ∧ Hid (Drawn w w') := by
  have la : a.data.toList.length = a.size := by simp
  have lb : b.data.toList.length = b.size := by simp
  have LA := Lib.hid la
  have LB := Lib.hid lb
  clear la lb
  go_enter Try.func55, Try.ntmps55
  go_wp2
  go_loopw [5] (fun i wr => ∃ k : Nat, k ≤ a.size ∧ k ≤ b.size ∧ i = .int .i64 k ∧ Hid (Lib.compareBytes a.data.toList b.data.toList = Lib.compareBytes (a.data.toList.drop k) (b.data.toList.drop k)) ∧ Hid (Drawn w wr)) (fun i _ => a.size - (intOf i).toNat)
  case atStart => exact ⟨0, by omega, by omega, rfl, rfl, Drawn.refl w⟩
  case round =>
    obtain ⟨k, hka, hkb, rfl, HC, HD⟩ := hrel
    by_cases h1 : k < a.size
    · by_cases h2 : k < b.size
      · have ea := Lib.hid (at8_lt a k h1)
        have eb := Lib.hid (at8_lt b k h2)
        by_cases c1 : (a[k].toNat : Int) < (b[k].toNat : Int)
        · go_wp2
          go_quiet (fail)
          go_wp2
          go_ret
          exact ⟨ret_int (by rw [HC.out, cmp_lo (by have := LA.out; omega) (by have := LB.out; omega) (by have := ea.out; have := eb.out; omega)]), HD.out.more _⟩
        · by_cases c2 : (b[k].toNat : Int) < (a[k].toNat : Int)
          · go_wp2
            go_quiet (fail)
            go_wp2
            go_quiet (fail)
            go_wp2
            go_ret
            exact ⟨ret_int (by rw [HC.out, cmp_hi (by have := LA.out; omega) (by have := LB.out; omega) (by have := ea.out; have := eb.out; omega)]), (HD.out.more _).more _⟩
          · go_wp2
            go_quiet (fail)
            go_wp2
            go_quiet (fail)
            go_wp2
            go_roundw
            case rel =>
              exact ⟨k + 1, by omega, by omega, by go_num, by show _ = _; rw [HC.out, cmp_eq (by have := LA.out; omega) (by have := LB.out; omega) (by have := ea.out; have := eb.out; omega)], HD.out.more _⟩
            case measure => simp [intOf]; omega
      · have HE : Hid (Lib.compareBytes a.data.toList b.data.toList = if a.data.toList.length < b.data.toList.length then -1 else if b.data.toList.length < a.data.toList.length then 1 else 0) := by
          show _ = _
          rw [HC.out]; exact cmp_end (Or.inr (by have := LB.out; omega)) (by have := LA.out; omega) (by have := LB.out; omega)
        have c1 : ¬ a.size < b.size := by omega
        have c2 : b.size < a.size := by omega
        go_wp2
        go_ret
        exact ⟨ret_int (by rw [HE.out, if_neg (by have := LA.out; have := LB.out; omega), if_pos (by have := LA.out; have := LB.out; omega)]), HD.out⟩
    · have HE : Hid (Lib.compareBytes a.data.toList b.data.toList = if a.data.toList.length < b.data.toList.length then -1 else if b.data.toList.length < a.data.toList.length then 1 else 0) := by
        show _ = _
        rw [HC.out]; exact cmp_end (Or.inl (by have := LA.out; omega)) (by have := LA.out; omega) (by have := LB.out; omega)
      by_cases c1 : a.size < b.size
      · go_wp2
        go_ret
        exact ⟨ret_int (by rw [HE.out, if_pos (by have := LA.out; have := LB.out; omega)]), HD.out⟩
      · have c2 : ¬ b.size < a.size := by omega
        go_wp2
        go_ret
        exact ⟨ret_int (by rw [HE.out, if_neg (by have := LA.out; have := LB.out; omega), if_neg (by have := LA.out; have := LB.out; omega)]), HD.out⟩

end Go.Proofs.Ytpaiigminmakgaa
