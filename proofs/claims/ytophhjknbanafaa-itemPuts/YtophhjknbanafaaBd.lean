/- wire.first: the number that bytes begin with (a label and a goto). -/
import Derived.Test.YtophhjknbanafaaBc
import Derived.ScopeJumps
import Derived.OwnWalk
namespace Go.Proofs.Ytophhjknbanafaa
open Go.RowKit

set_option maxRecDepth 100000 in
set_option maxHeartbeats 4000000 in
theorem first_any (A : Option Addr) (c g n : Nat) (bs : List UInt8) (w : World) (hz : BytesAt w g A n bs) (hn : n ≤ 1099511627776) :
    Calls Try.prog 60 #[.slice A n c] w fun e w' => e = .returned (.tuple #[.int .i64 (firstF bs 0 0).1, .int .i64 (firstF bs 0 0).2.1, .int .i64 (firstF bs 0 0).2.2]) ∧ w = w' := by
  have HZ := Lib.hid hz
  clear hz
  obtain ⟨T, hT⟩ : ∃ T, T = firstF bs 0 0 := ⟨_, rfl⟩
  rw [← hT]
  have HT := Lib.hid hT
  clear hT
  go_enter Try.func60, Try.ntmps60
  go_wp2
  refine wp_scope_jumps 0 (fun a' w' => w = w' ∧ ∃ (k acc : Nat) (u7 u8 u9 u10 u11 u12 u13 u14 u15 u16 u17 u18 u19 u20 u21 u22 u23 u24 u25 u26 u27 u28 u29 u30 u31 u32 u33 u34 u35 u36 u37 u38 u39 u40 u41 u42 : Value), a' = { tmps := #[.slice A n c, undef, .int .i64 0, .int .i64 0, .int .i64 0, .int .i64 (acc : Int), .int .i64 (k : Int), u7, u8, u9, u10, u11, u12, u13, u14, u15, u16, u17, u18, u19, u20, u21, u22, u23, u24, u25, u26, u27, u28, u29, u30, u31, u32, u33, u34, u35, u36, u37, u38, u39, u40, u41, u42], defers := [] } ∧ k ≤ 8 ∧ k ≤ n ∧ acc < 128 ^ k ∧ Hid (firstF (bs.drop k) k acc = T)) (fun a' _ => 9 - (intOf (a'.tmps.getD 6 undef)).toNat) rfl ?_ ?_
  · have HF : Hid (firstF bs 0 0 = T) := HT.out.symm
    rcases Nat.lt_or_ge 0 n with hlt | hge
    · obtain ⟨off, rfl, hc⟩ := HZ.out.2 (by omega)
      have h1 : ((0 : Int) == n) = false := by simp; omega
      have hc1 := hc 0 hlt
      rw [Nat.add_zero] at hc1
      have hlt1 : (0 : Int) < n := by omega
      have hdr : bs = bs.getD 0 0 :: bs.drop 1 := by
        have hl := HZ.out.1
        conv => lhs; rw [← List.drop_zero (l := bs), List.drop_eq_getElem_cons (by omega)]
        simp [List.getD_eq_getElem?_getD, List.getElem?_eq_getElem (show 0 < bs.length by omega)]
      rw [hdr] at HF
      have HDR := Lib.hid hdr
      clear hdr hc
      unfold firstF at HF
      have hd : (bs.getD 0 0).toNat < 256 := (bs.getD 0 0).toNat_lt
      generalize (bs.getD 0 0).toNat = d at *
      clear HDR
      by_cases h128 : 128 ≤ d
      · rw [if_pos h128, if_neg (by omega)] at HF
        have h128' : (128 : Int) ≤ d := by omega
        go_wp2
        go_step3
        go_wp2
        go_step3
        simp only [Nat.pow_zero, Nat.mul_one, Nat.zero_add] at HF
        exact ⟨rfl, rfl, 1, d % 128, _, _, _, _, _, _, _, _, _, _, _, _, _, _, _, _, _, _, _, _, _, _, _, _, _, _, _, _, _, _, _, _, _, _, _, _, rfl, by omega, by omega, by omega, HF⟩
      · rw [if_neg h128, if_neg (by omega)] at HF
        have h128' : ¬ ((128 : Int) ≤ d) := by omega
        by_cases hd0 : d = 0
        · subst hd0
          go_wp2
          go_step3
          go_wp2
          simp only [Exit.jump]
          go_ret3
          exact ⟨by rw [← HF.out]; rfl, rfl⟩
        · have hd1 : ((d : Int) == 0) = false := by simp; omega
          go_wp2
          go_step3
          go_wp2
          simp only [Exit.jump]
          go_ret3
          simp only [Nat.pow_zero, Nat.mul_one, Nat.zero_add] at HF
          exact ⟨by rw [← HF.out]; rfl, rfl⟩
    · obtain rfl : n = 0 := by omega
      have hb : bs = [] := List.eq_nil_of_length_eq_zero HZ.out.1
      subst hb
      unfold firstF at HF
      go_wp2
      go_step3
      go_wp2
      simp only [Exit.jump]
      go_ret3
      exact ⟨by rw [← HF.out]; rfl, rfl⟩
  · rintro a' w' ⟨rfl, k, acc, u7, u8, u9, u10, u11, u12, u13, u14, u15, u16, u17, u18, u19, u20, u21, u22, u23, u24, u25, u26, u27, u28, u29, u30, u31, u32, u33, u34, u35, u36, u37, u38, u39, u40, u41, u42, rfl, hk, hkn, ha, HF⟩
    rcases Nat.lt_or_ge k n with hlt | hge
    · obtain ⟨off, rfl, hc⟩ := HZ.out.2 (by omega)
      have h1 : ((k : Int) == n) = false := by simp; omega
      have hc1 := hc k hlt
      have hlt1 : (k : Int) < n := by omega
      have hdr : bs.drop k = bs.getD k 0 :: bs.drop (k + 1) := by
        have hl := HZ.out.1
        rw [List.drop_eq_getElem_cons (by omega)]
        simp [List.getD_eq_getElem?_getD, List.getElem?_eq_getElem (show k < bs.length by omega)]
      rw [hdr] at HF
      clear hdr hc
      unfold firstF at HF
      have hd : (bs.getD k 0).toNat < 256 := (bs.getD k 0).toNat_lt
      generalize (bs.getD k 0).toNat = d at *
      obtain ⟨x, hx⟩ : ∃ x, x = d % 128 * 128 ^ k := ⟨_, rfl⟩
      have hxe : (d : Int) % 128 * 2 ^ (7 * k) = (x : Int) := by
        rw [hx, show (128 : Nat) ^ k = 2 ^ (7 * k) by rw [Nat.pow_mul]]
        push_cast
        rfl
      have ha2 : acc + x < 128 ^ (k + 1) := by
        rw [hx, Nat.pow_succ]
        have h2 : d % 128 * 128 ^ k ≤ 127 * 128 ^ k := Nat.mul_le_mul_right _ (by omega)
        omega
      have hb : acc + x ≤ 9223372036854775807 := by
        have h2 : 128 ^ (k + 1) ≤ 128 ^ 9 := Nat.pow_le_pow_right (by omega) (by omega)
        have h3 : (128 : Nat) ^ 9 = 9223372036854775808 := by decide
        omega
      rw [← hx] at HF
      clear hx
      have HA2 := Lib.hid ha2
      clear ha ha2
      by_cases h128 : 128 ≤ d
      · rw [if_pos h128] at HF
        have h128' : (128 : Int) ≤ d := by omega
        by_cases h9 : k = 8
        · subst h9
          rw [if_pos rfl] at HF
          go_wp2
          simp only [Exit.jump]
          go_ret3
          exact ⟨by rw [← HF.out]; rfl, rfl⟩
        · rw [if_neg (by omega)] at HF
          have HN := HF
          have h9' : ((k : Int) + 1 == 9) = false := by simp; omega
          go_wp2
          go_step3
          first | refine ⟨rfl, ⟨rfl, k + 1, acc + x, ⟨_, _, _, _, _, _, _, _, _, _, _, _, _, _, _, _, _, _, _, _, _, _, _, _, _, _, _, _, _, _, _, _, _, _, _, _, rfl⟩, by omega, by omega, HA2.out, HN⟩, ?_⟩ | refine ⟨rfl, ⟨rfl, k + 1, acc + x, _, _, _, _, _, _, _, _, _, _, _, _, _, _, _, _, _, _, _, _, _, _, _, _, _, _, _, _, _, _, _, _, _, _, _, _, rfl, by omega, by omega, HA2.out, HN⟩, ?_⟩
          simp [intOf]; omega
      · rw [if_neg h128] at HF
        have h128' : ¬ ((128 : Int) ≤ d) := by omega
        by_cases h0 : d = 0 ∧ 0 < k
        · rw [if_pos h0] at HF
          obtain ⟨hd0, hk0⟩ := h0
          have hd1 : ((d : Int) == 0) = true := by simpa using hd0
          have hk1 : (1 : Int) < k + 1 := by omega
          clear hd0
          go_wp2
          simp only [Exit.jump]
          go_ret3
          exact ⟨by rw [← HF.out]; rfl, rfl⟩
        · rw [if_neg h0] at HF
          by_cases hd0 : d = 0
          · have hd1 : ((d : Int) == 0) = true := by simpa using hd0
            have hk1 : ¬ ((1 : Int) < k + 1) := by omega
            clear hd0
            go_wp2
            simp only [Exit.jump]
            go_ret3
            exact ⟨by rw [← HF.out]; rfl, rfl⟩
          · have hd1 : ((d : Int) == 0) = false := by simp; omega
            go_wp2
            simp only [Exit.jump]
            go_ret3
            exact ⟨by rw [← HF.out]; rfl, rfl⟩
    · obtain rfl : k = n := by omega
      rw [List.drop_eq_nil_of_le (by have := HZ.out.1; omega)] at HF
      unfold firstF at HF
      go_wp2
      simp only [Exit.jump]
      go_ret3
      exact ⟨by rw [← HF.out]; rfl, rfl⟩
end Go.Proofs.Ytophhjknbanafaa
