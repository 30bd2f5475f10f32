/- The names of layer 1: what id.Right and the document's Right answer: rightL of the text's bytes. -/
import Derived.Test.YtpaiigminmakgaaRows
import Derived.Test.YtpaiigminmakgaaIm
import Derived.WalkKit
import Derived.WalkSpells
import Derived.WalkLawsBesides
import Derived.BigQuiet
import Derived.Deep.QuietTactic
import Derived.Lib.Hide
namespace Go.Proofs.Ytpaiigminmakgaa
open Go.RowKit

theorem ret_int {k : IntKind} {a b : Int} (h : a = b) : Ending.returned (.int k a) = .returned (.int k b) := by rw [h]
theorem ret_bool {a b : Bool} (h : a = b) : Ending.returned (.bool a) = .returned (.bool b) := by rw [h]

set_option maxRecDepth 100000 in
set_option maxHeartbeats 400000 in
theorem hasPrefix_in (s p : ByteArray) (w : World) :
    Calls Try.prog 91 #[.string s, .string p] w fun e w' => e = .returned (.bool (Lib.hasPrefix s.data.toList p.data.toList)) ∧ w = w' := by
  by_cases h : p.size ≤ s.size
  · go_enter Try.func91, Try.ntmps91
    go_wp2
    go_ret
    exact ⟨ret_bool (by rw [← Lib.hasPrefix_raw]; simp [h]), rfl⟩
  · go_enter Try.func91, Try.ntmps91
    go_wp2
    go_ret
    exact ⟨ret_bool (by rw [← Lib.hasPrefix_raw]; simp [h]), rfl⟩

set_option maxRecDepth 100000 in
set_option maxHeartbeats 400000 in
theorem hasPrefix_any (s p : ByteArray) (w : World) :
    Calls Try.prog 84 #[.string s, .string p] w fun e w' => e = .returned (.bool (Lib.hasPrefix s.data.toList p.data.toList)) ∧ w = w' := by
  go_enter Try.func84, Try.ntmps84
  go_wp2_with (go_at_call 91; refine (hasPrefix_in _ _ _).mono ?_; rintro e w' ⟨rfl, rfl⟩)
  go_ret
  exact ⟨rfl, rfl⟩
theorem hasPrefix_is (s p : ByteArray) (b : Bool) (h : Hid (Lib.hasPrefix s.data.toList p.data.toList = b)) (w : World) :
    Calls Try.prog 84 #[.string s, .string p] w fun e w' => e = .returned (.bool b) ∧ w = w' := by
  rw [← h.out]; exact hasPrefix_any s p w

set_option maxRecDepth 100000 in
set_option maxHeartbeats 1000000 in
theorem right_any (s : ByteArray) (w : World) :
    Calls Try.prog 73 #[.string s] w fun e w' => e = .returned (.bool (rightL s.data.toList)) ∧ w = w' := by
  have hsz : s.data.toList.length = s.size := by simp
  by_cases h6 : 6 < s.size
  · have HR : Hid (rightL s.data.toList = false) := right_long (by omega)
    clear hsz
    go_enter Try.func73, Try.ntmps73
    go_wp2
    go_ret
    exact ⟨ret_bool HR.out.symm, rfl⟩
  · by_cases h0 : 1 ≤ s.size ∧ at8 s.data.toList 0 = 48
    · have HP : Hid (Lib.hasPrefix s.data.toList (ByteArray.mk #[48]).data.toList = true) := by
        show Lib.hasPrefix s.data.toList [48] = true
        rw [hasPrefix_zero]; simp [h0]
      obtain ⟨h1, hz⟩ := h0
      have HZ := Lib.hid hz
      have HL := Lib.hid hsz
      clear hz hsz
      go_enter Try.func73, Try.ntmps73
      go_wp2_with (go_at_call 84; refine (hasPrefix_is _ _ true HP _).mono ?_; rintro e w' ⟨rfl, rfl⟩)
      go_loop [3] (fun i => ∃ k : Nat, 1 ≤ k ∧ k ≤ s.size ∧ i = .int .i64 k ∧ Hid (∀ j, 1 ≤ j → j < k → 49 ≤ at8 s.data.toList j ∧ at8 s.data.toList j ≤ 57)) (fun i => s.size - (intOf i).toNat)
      case atStart => exact ⟨1, by omega, h1, rfl, fun j a b => absurd b (by omega)⟩
      case round =>
        obtain ⟨k, hk1, hk, rfl, HA⟩ := hrel
        by_cases hlt : k < s.size
        · have hb := at8_lt s k hlt
          have HB := Lib.hid hb
          clear hb
          by_cases c1 : (s[k].toNat : Int) < 49
          · go_wp2
            go_ret
            exact ⟨ret_bool (right_low k hk1 (by have := HL.out; omega) (by have := HB.out; omega)).symm, rfl⟩
          · by_cases c2 : 57 < (s[k].toNat : Int)
            · go_wp2
              go_ret
              exact ⟨ret_bool (right_high k hk1 (by have := HL.out; omega) (by have := HB.out; omega)).symm, rfl⟩
            · go_wp2
              go_round
              case rel =>
                refine ⟨k + 1, by omega, by omega, by go_num, fun j a b => ?_⟩
                by_cases e : j = k
                · subst e; have := HB.out; omega
                · exact HA.out j a (by omega)
              case measure => simp [intOf]; omega
        · go_wp2
          go_ret
          exact ⟨ret_bool (right_true (by have := HL.out; omega) (by have := HL.out; omega) HZ.out (fun j a b => HA.out j a (by have := HL.out; omega))).symm, rfl⟩
    · have HP : Hid (Lib.hasPrefix s.data.toList (ByteArray.mk #[48]).data.toList = false) := by
        show Lib.hasPrefix s.data.toList [48] = false
        rw [hasPrefix_zero]; simp; omega
      have HR : Hid (rightL s.data.toList = false) := by
        by_cases h1 : 1 ≤ s.size
        · exact right_head (by omega)
        · exact right_nil (by omega)
      clear hsz h0
      go_enter Try.func73, Try.ntmps73
      go_wp2_with (go_at_call 84; refine (hasPrefix_is _ _ false HP _).mono ?_; rintro e w' ⟨rfl, rfl⟩)
      go_ret
      exact ⟨ret_bool HR.out.symm, rfl⟩
theorem right_is (s : ByteArray) (b : Bool) (h : Hid (rightL s.data.toList = b)) (w : World) :
    Calls Try.prog 73 #[.string s] w fun e w' => e = .returned (.bool b) ∧ w = w' := by
  rw [← h.out]; exact right_any s w

set_option maxRecDepth 100000 in
set_option maxHeartbeats 1000000 in
theorem rright_any (s : ByteArray) (w : World) :
    Calls Try.prog 58 #[.string s] w fun e w' => e = .returned (.bool (rightL s.data.toList)) ∧ w = w' := by
  have hsz : s.data.toList.length = s.size := by simp
  by_cases h1 : s.size < 1
  · have HR : Hid (rightL s.data.toList = false) := right_nil (by omega)
    clear hsz
    go_enter Try.func58, Try.ntmps58
    go_wp2
    go_ret
    exact ⟨ret_bool HR.out.symm, rfl⟩
  by_cases h6 : 6 < s.size
  · have HR : Hid (rightL s.data.toList = false) := right_long (by omega)
    clear hsz
    go_enter Try.func58, Try.ntmps58
    go_wp2
    go_ret
    exact ⟨ret_bool HR.out.symm, rfl⟩
  have h0 : 0 < s.size := by omega
  have hb := at8_lt s 0 h0
  by_cases hz : ((s[0].toNat : Int) != 48) = true
  · have HR : Hid (rightL s.data.toList = false) := right_head (by simp at hz; omega)
    clear hsz hb
    go_enter Try.func58, Try.ntmps58
    go_wp2
    go_ret
    exact ⟨ret_bool HR.out.symm, rfl⟩
  · have hz' : ((s[0].toNat : Int) != 48) = false := by simpa using hz
    have HZ : Hid (at8 s.data.toList 0 = 48) := by simp at hz; show _ = _; omega
    have HL := Lib.hid hsz
    clear hz hsz hb
    go_enter Try.func58, Try.ntmps58
    go_wp2
    go_loop [3] (fun i => ∃ k : Nat, 1 ≤ k ∧ k ≤ s.size ∧ i = .int .i64 k ∧ Hid (∀ j, 1 ≤ j → j < k → 49 ≤ at8 s.data.toList j ∧ at8 s.data.toList j ≤ 57)) (fun i => s.size - (intOf i).toNat)
    case atStart => exact ⟨1, by omega, by omega, rfl, fun j a b => absurd b (by omega)⟩
    case round =>
      obtain ⟨k, hk1, hk, rfl, HA⟩ := hrel
      by_cases hlt : k < s.size
      · have hb := at8_lt s k hlt
        have HB := Lib.hid hb
        clear hb
        by_cases c1 : (s[k].toNat : Int) < 49
        · go_wp2
          go_ret
          exact ⟨ret_bool (right_low k hk1 (by have := HL.out; omega) (by have := HB.out; omega)).symm, rfl⟩
        · by_cases c2 : 57 < (s[k].toNat : Int)
          · go_wp2
            go_ret
            exact ⟨ret_bool (right_high k hk1 (by have := HL.out; omega) (by have := HB.out; omega)).symm, rfl⟩
          · go_wp2
            go_round
            case rel =>
              refine ⟨k + 1, by omega, by omega, by go_num, fun j a b => ?_⟩
              by_cases e : j = k
              · subst e; have := HB.out; omega
              · exact HA.out j a (by omega)
            case measure => simp [intOf]; omega
      · go_wp2
        go_ret
        exact ⟨ret_bool (right_true (by have := HL.out; omega) (by have := HL.out; omega) HZ.out (fun j a b => HA.out j a (by have := HL.out; omega))).symm, rfl⟩
theorem rright_is (s : ByteArray) (b : Bool) (h : Hid (rightL s.data.toList = b)) (w : World) :
    Calls Try.prog 58 #[.string s] w fun e w' => e = .returned (.bool b) ∧ w = w' := by
  rw [← h.out]; exact rright_any s w
end Go.Proofs.Ytpaiigminmakgaa
