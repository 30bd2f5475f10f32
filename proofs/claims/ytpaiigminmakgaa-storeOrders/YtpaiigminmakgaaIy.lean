/- The document's Fix: a name out of any text. -/
import Derived.Test.YtpaiigminmakgaaIx
namespace Go.Proofs.Ytpaiigminmakgaa
open Go.RowKit

theorem fix_snoc {l : List UInt8} {k : Nat} (hk : k < l.length) (h5 : k < 5) : fixL (l.take (k + 1)) = fixL (l.take k) ++ [fixB l[k]] := by
  unfold fixL
  rw [List.take_take, List.take_take, Nat.min_eq_right (by omega), Nat.min_eq_right (by omega), List.take_succ_eq_append_getElem hk, List.map_append]
  rfl
theorem fix_end {l : List UInt8} {k : Nat} (h : l.length ≤ k ∨ 5 ≤ k) : fixL (l.take k) = fixL l := by
  unfold fixL
  rw [List.take_take]
  congr 2
  by_cases h5 : 5 ≤ k
  · rw [Nat.min_eq_left (by omega)]
  · rw [List.take_of_length_le (by omega), List.take_of_length_le (by omega)]
/-- The one byte that Fix puts. -/
def fixOne (c : UInt8) : ByteArray := ⟨#[fixB c]⟩
theorem fixOne_size (x : ByteArray) (c : UInt8) : (x ++ fixOne c).size = x.size + 1 := ByteArray.size_append
theorem fix_nine (c : UInt8) : c.toNat % 9 = 0 ∨ c.toNat % 9 = 1 ∨ c.toNat % 9 = 2 ∨ c.toNat % 9 = 3 ∨ c.toNat % 9 = 4 ∨ c.toNat % 9 = 5 ∨ c.toNat % 9 = 6 ∨ c.toNat % 9 = 7 ∨ c.toNat % 9 = 8 := by omega

set_option maxRecDepth 100000 in
set_option maxHeartbeats 4000000 in
theorem fix_any (s : ByteArray) (w : World) :
    Calls Try.prog 36 #[.string s] w fun e w' => e = .returned (.string ⟨(fixL s.data.toList).toArray⟩) ∧ Hid (Drawn w w') := by
  have hl : s.data.toList.length = s.size := by simp
  have HL := Lib.hid hl
  clear hl
  go_enter Try.func36, Try.ntmps36
  go_wp2
  go_loopw [3, 4] (fun o i wr => ∃ (k : Nat) (x : ByteArray), k ≤ s.size ∧ k ≤ 5 ∧ i = .int .i64 k ∧ o = .string x ∧ x.size ≤ 6 ∧ Hid (x = ⟨(fixL (s.data.toList.take k)).toArray⟩) ∧ Hid (Drawn w wr)) (fun _ i _ => 5 - (intOf i).toNat)
  case atStart => exact ⟨0, ⟨#[48]⟩, by omega, by omega, rfl, rfl, by decide, by show _ = _; simp [fixL], Drawn.refl w⟩
  case round =>
    obtain ⟨k, x, hk, hk5, rfl, rfl, hx, HX, HD⟩ := hrel
    by_cases h1 : k < s.size
    · by_cases h2 : k < 5
      · have hq : (s[k].toNat : Int) < 256 := by have := s[k].toNat_lt; omega
        have HK : Hid (x ++ fixOne s[k] = ⟨(fixL (s.data.toList.take (k + 1))).toArray⟩) := by
          show _ = _
          rw [HX.out, fix_snoc (by have := HL.out; omega) h2]
          exact Go.ByteArray.mk_append_mk _ _
        have hsz : x.size + 1 ≤ 6 := by
          have h3 : x.size = (fixL (s.data.toList.take k)).length := by rw [HX.out]; rfl
          rw [fixL_len, List.length_take] at h3
          omega
        have HS : ∀ c, Hid ((x ++ fixOne c).size ≤ 6) := fun c => by
          show _ ≤ _
          have := fixOne_size x c
          omega
        obtain ⟨c, hc⟩ : ∃ c, s[k] = c := ⟨_, rfl⟩
        rw [hc] at HK hq
        rcases fix_nine c with h | h | h | h | h | h | h | h | h
        · have hm1 : (c.toNat : Int) % 9 = 0 := by omega
          have hm2 : ((c.toNat : Int)).tmod 9 = 0 := by rw [Int.tmod_eq_emod_of_nonneg (by omega)]; omega
          have HO : Hid ((ByteArray.mk #[49, 50, 51, 52, 53, 54, 55, 56, 57]).extract 0 1 = fixOne c) := by
            show _ = _
            unfold fixOne fixB
            rw [h]
            rfl
          clear h
          go_wp2
          go_quiet (fail)
          go_wp2
          go_roundw
          case rel => exact ⟨k + 1, x ++ fixOne c, by omega, by omega, by go_num, by rw [HO.out], (HS c).out, HK.out, HD.out.more _⟩
          case measure => simp [intOf]; omega
        · have hm1 : (c.toNat : Int) % 9 = 1 := by omega
          have hm2 : ((c.toNat : Int)).tmod 9 = 1 := by rw [Int.tmod_eq_emod_of_nonneg (by omega)]; omega
          have HO : Hid ((ByteArray.mk #[49, 50, 51, 52, 53, 54, 55, 56, 57]).extract 1 2 = fixOne c) := by
            show _ = _
            unfold fixOne fixB
            rw [h]
            rfl
          clear h
          go_wp2
          go_quiet (fail)
          go_wp2
          go_roundw
          case rel => exact ⟨k + 1, x ++ fixOne c, by omega, by omega, by go_num, by rw [HO.out], (HS c).out, HK.out, HD.out.more _⟩
          case measure => simp [intOf]; omega
        · have hm1 : (c.toNat : Int) % 9 = 2 := by omega
          have hm2 : ((c.toNat : Int)).tmod 9 = 2 := by rw [Int.tmod_eq_emod_of_nonneg (by omega)]; omega
          have HO : Hid ((ByteArray.mk #[49, 50, 51, 52, 53, 54, 55, 56, 57]).extract 2 3 = fixOne c) := by
            show _ = _
            unfold fixOne fixB
            rw [h]
            rfl
          clear h
          go_wp2
          go_quiet (fail)
          go_wp2
          go_roundw
          case rel => exact ⟨k + 1, x ++ fixOne c, by omega, by omega, by go_num, by rw [HO.out], (HS c).out, HK.out, HD.out.more _⟩
          case measure => simp [intOf]; omega
        · have hm1 : (c.toNat : Int) % 9 = 3 := by omega
          have hm2 : ((c.toNat : Int)).tmod 9 = 3 := by rw [Int.tmod_eq_emod_of_nonneg (by omega)]; omega
          have HO : Hid ((ByteArray.mk #[49, 50, 51, 52, 53, 54, 55, 56, 57]).extract 3 4 = fixOne c) := by
            show _ = _
            unfold fixOne fixB
            rw [h]
            rfl
          clear h
          go_wp2
          go_quiet (fail)
          go_wp2
          go_roundw
          case rel => exact ⟨k + 1, x ++ fixOne c, by omega, by omega, by go_num, by rw [HO.out], (HS c).out, HK.out, HD.out.more _⟩
          case measure => simp [intOf]; omega
        · have hm1 : (c.toNat : Int) % 9 = 4 := by omega
          have hm2 : ((c.toNat : Int)).tmod 9 = 4 := by rw [Int.tmod_eq_emod_of_nonneg (by omega)]; omega
          have HO : Hid ((ByteArray.mk #[49, 50, 51, 52, 53, 54, 55, 56, 57]).extract 4 5 = fixOne c) := by
            show _ = _
            unfold fixOne fixB
            rw [h]
            rfl
          clear h
          go_wp2
          go_quiet (fail)
          go_wp2
          go_roundw
          case rel => exact ⟨k + 1, x ++ fixOne c, by omega, by omega, by go_num, by rw [HO.out], (HS c).out, HK.out, HD.out.more _⟩
          case measure => simp [intOf]; omega
        · have hm1 : (c.toNat : Int) % 9 = 5 := by omega
          have hm2 : ((c.toNat : Int)).tmod 9 = 5 := by rw [Int.tmod_eq_emod_of_nonneg (by omega)]; omega
          have HO : Hid ((ByteArray.mk #[49, 50, 51, 52, 53, 54, 55, 56, 57]).extract 5 6 = fixOne c) := by
            show _ = _
            unfold fixOne fixB
            rw [h]
            rfl
          clear h
          go_wp2
          go_quiet (fail)
          go_wp2
          go_roundw
          case rel => exact ⟨k + 1, x ++ fixOne c, by omega, by omega, by go_num, by rw [HO.out], (HS c).out, HK.out, HD.out.more _⟩
          case measure => simp [intOf]; omega
        · have hm1 : (c.toNat : Int) % 9 = 6 := by omega
          have hm2 : ((c.toNat : Int)).tmod 9 = 6 := by rw [Int.tmod_eq_emod_of_nonneg (by omega)]; omega
          have HO : Hid ((ByteArray.mk #[49, 50, 51, 52, 53, 54, 55, 56, 57]).extract 6 7 = fixOne c) := by
            show _ = _
            unfold fixOne fixB
            rw [h]
            rfl
          clear h
          go_wp2
          go_quiet (fail)
          go_wp2
          go_roundw
          case rel => exact ⟨k + 1, x ++ fixOne c, by omega, by omega, by go_num, by rw [HO.out], (HS c).out, HK.out, HD.out.more _⟩
          case measure => simp [intOf]; omega
        · have hm1 : (c.toNat : Int) % 9 = 7 := by omega
          have hm2 : ((c.toNat : Int)).tmod 9 = 7 := by rw [Int.tmod_eq_emod_of_nonneg (by omega)]; omega
          have HO : Hid ((ByteArray.mk #[49, 50, 51, 52, 53, 54, 55, 56, 57]).extract 7 8 = fixOne c) := by
            show _ = _
            unfold fixOne fixB
            rw [h]
            rfl
          clear h
          go_wp2
          go_quiet (fail)
          go_wp2
          go_roundw
          case rel => exact ⟨k + 1, x ++ fixOne c, by omega, by omega, by go_num, by rw [HO.out], (HS c).out, HK.out, HD.out.more _⟩
          case measure => simp [intOf]; omega
        · have hm1 : (c.toNat : Int) % 9 = 8 := by omega
          have hm2 : ((c.toNat : Int)).tmod 9 = 8 := by rw [Int.tmod_eq_emod_of_nonneg (by omega)]; omega
          have HO : Hid ((ByteArray.mk #[49, 50, 51, 52, 53, 54, 55, 56, 57]).extract 8 9 = fixOne c) := by
            show _ = _
            unfold fixOne fixB
            rw [h]
            rfl
          clear h
          go_wp2
          go_quiet (fail)
          go_wp2
          go_roundw
          case rel => exact ⟨k + 1, x ++ fixOne c, by omega, by omega, by go_num, by rw [HO.out], (HS c).out, HK.out, HD.out.more _⟩
          case measure => simp [intOf]; omega
      · have HE : Hid (fixL (s.data.toList.take k) = fixL s.data.toList) := fix_end (Or.inr (by omega))
        have h3 : decide ((k : Int) < 5) = false := by simp; omega
        go_wp2
        go_ret
        exact ⟨by rw [HX.out, HE.out]; rfl, HD.out⟩
    · have HE : Hid (fixL (s.data.toList.take k) = fixL s.data.toList) := fix_end (Or.inl (by have := HL.out; omega))
      go_wp2
      go_ret
      exact ⟨by rw [HX.out, HE.out]; rfl, HD.out⟩
end Go.Proofs.Ytpaiigminmakgaa
