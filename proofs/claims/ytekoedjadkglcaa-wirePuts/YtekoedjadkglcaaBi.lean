/- The document's Same of bytes; WireOnce, walked. -/
import Derived.Test.YtekoedjadkglcaaBf
namespace Go.Proofs.Ytekoedjadkglcaa
open Go.RowKit

set_option maxRecDepth 100000 in
set_option maxHeartbeats 1000000 in
theorem same_any (A1 A2 : Option Addr) (n1 n2 c1 c2 g1 g2 : Nat) (xs ys : List UInt8) (w : World) (h1 : BytesAt w g1 A1 n1 xs) (h2 : BytesAt w g2 A2 n2 ys) :
    Calls Try.prog 18 #[.slice A1 n1 c1, .slice A2 n2 c2] w fun e w' => e = .returned (.bool (decide (xs = ys))) ∧ w = w' := by
  have k1 : (convert 22 9 (.slice A1 n1 c1)).run Try.prog w = .ok (.string ⟨xs.toArray⟩) w := run_text c1 h1
  have k2 : (convert 22 9 (.slice A2 n2 c2)).run Try.prog w = .ok (.string ⟨ys.toArray⟩) w := run_text c2 h2
  go_enter Try.func18, Try.ntmps18
  go_wp2
  go_ret
  refine ⟨ret_bool ?_, rfl⟩
  by_cases h : xs = ys <;> simp [h]

/-- Whatever bytes are a number's, they are its digits. -/
theorem num_once (zs : List UInt8) : (numF (zs, 0) 9223372036854775807).2.2 ≠ 0 ∨ ∃ m : Nat, m ≤ 9223372036854775807 ∧ numF (zs, 0) 9223372036854775807 = ((m : Int), (zs.drop (digitsF m).length, 0)) ∧ zs.take (digitsF m).length = digitsF m ∧ (digitsF m).length ≤ zs.length := by
  by_cases he : (firstF zs 0 0).2.2 = 0
  · right
    obtain ⟨m, h1, h2, h3, h4, _⟩ := first_back zs 0 0 (firstF zs 0 0).1 (firstF zs 0 0).2.1 (Prod.ext rfl (Prod.ext rfl he))
    obtain ⟨h5, _, _⟩ := first_bound zs 0 0 (firstF zs 0 0).1 (firstF zs 0 0).2.1 (by omega) (by simp) (Prod.ext rfl (Prod.ext rfl he))
    rw [Nat.pow_zero, Nat.mul_one, Nat.zero_add] at h1
    rw [Nat.zero_add] at h2
    rw [show (128 : Nat) ^ 9 = 9223372036854775808 by decide] at h5
    refine ⟨m, by omega, ?_, h3, h4⟩
    unfold numF
    simp only [ne_eq, not_true_eq_false, if_false, he]
    rw [if_neg (by omega), h1, h2]
  · left
    unfold numF
    simp only [ne_eq, not_true_eq_false, if_false]
    rw [if_pos he]
    exact he

theorem below_one {w w' : World} {B : Nat} {R : Nat} {a : World} (h : Below B a w) (hg : w.grownBy w' (some R)) (hB : B ≤ w.heap.size) (hR : B ≤ R) : Below B a w' := h.grown hg hB (fun k e => by injection e with e; omega)

set_option maxRecDepth 100000 in
set_option maxHeartbeats 4000000 in
theorem wireOnce_walk (A : Option Addr) (n c g : Nat) (bs : List UInt8) (w : World) (hz : BytesAt w g A n bs) (hc : n ≤ c) (hn : c ≤ 9223372036854775807) :
    Calls Try.prog 5 #[.slice A n c] w fun e w' => e = .returned (.bool true) ∧ Below w.heap.size w w' := by
  by_cases h30 : 30 < n
  · have h30' : (30 : Int) < n := by omega
    have HZ : Hid (BytesAt w g A 30 (bs.take 30)) := hz.take 30 (by omega)
    clear hz
    generalize bs.take 30 = zs at HZ
    have hzl : zs.length = 30 := HZ.out.1
    rw [← hzl] at HZ
    have HL := Lib.hid hzl
    have hz30 : zs.length ≤ 30 := by omega
    clear hzl
    go_enter Try.func5, Try.ntmps5
    go_wp2_with fail
    rw [← HL.out]
    clear HL
    refine (read_any A c g zs _ HZ.out (by omega)).mono ?_
    rintro e w1 ⟨R, r1, rfl, hR, hlR, hlr, hb1⟩
    have HZ1 := Lib.hid (HZ.out.keep hb1)
    have HB1 := Lib.hid hb1
    have HR := Lib.hid hR
    clear hR hlr hb1
    go_wp2_with fail
    refine (num_any 9223372036854775807 _ HR.out).mono ?_
    rcases num_once zs with hbad | ⟨m, hm, hnum, htk, hle⟩
    · generalize numF (zs, 0) 9223372036854775807 = N at *
      obtain ⟨v, rs, er⟩ := N
      simp only at hbad
      rintro e w2 ⟨rfl, hR, hg, _⟩
      have HB2 : Hid (Below w.heap.size w w2) := below_one HB1.out hg HB1.out.size hlR
      replace HR := Lib.hid hR
      clear hR hg
      have hb0 : ((er : Int) != 0) = true := by simpa using hbad
      go_wp2_with fail
      refine (told_any _).mono ?_
      rintro e w3 ⟨rfl, hb3⟩
      have HB3 : Hid (Below w.heap.size w w3) := HB2.out.trans (hb3.mono HB2.out.size)
      replace HR := Lib.hid (HR.out.keep hb3)
      clear hb3
      go_wp2_with fail
      refine (err_any _ HR.out).mono ?_
      rintro e w4 ⟨rfl, rfl⟩
      go_wp2_with fail
      refine (told_any _).mono ?_
      rintro e w4 ⟨rfl, hb4⟩
      have HB4 : Hid (Below w.heap.size w w4) := HB3.out.trans (hb4.mono HB3.out.size)
      clear hb4
      go_wp2
      go_ret
      exact ⟨rfl, HB4.out⟩
    · rw [hnum]
      rintro e w2 ⟨rfl, hR, hg, _⟩
      have HB2 : Hid (Below w.heap.size w w2) := below_one HB1.out hg HB1.out.size hlR
      replace HR := Lib.hid hR
      replace HZ1 : Hid (BytesAt w2 g A zs.length zs) := HZ.out.keep HB2.out
      clear hR hg
      have hd9 : (digitsF m).length ≤ 9 := digits_le m (by omega)
      have hend : (endF (zs.drop (digitsF m).length, 0) = 0) ↔ (digitsF m).length = zs.length := by
        unfold endF
        simp only [ne_eq, not_true_eq_false, if_false]
        split
        · rename_i h
          have := List.drop_eq_nil_iff.mp h
          simp; omega
        · rename_i h
          have : ¬ zs.length ≤ (digitsF m).length := fun h' => h (List.drop_eq_nil_iff.mpr h')
          simp; omega
      have HE := Lib.hid hend
      have HT := Lib.hid htk
      clear hend htk hnum
      go_wp2_with fail
      refine (told_any _).mono ?_
      rintro e w3 ⟨rfl, hb3⟩
      have HB3 : Hid (Below w.heap.size w w3) := HB2.out.trans (hb3.mono HB2.out.size)
      replace HR := Lib.hid (HR.out.keep hb3)
      replace HZ1 := Lib.hid (HZ1.out.keep hb3)
      clear hb3
      go_wp2_with fail
      refine (err_any _ HR.out).mono ?_
      rintro e w4 ⟨rfl, rfl⟩
      simp only [Int.natCast_zero]
      go_wp2_with fail
      refine (put_any none 0 0 [] m _ (BytesAt.nil _ _ _) (by simp) (by omega)).mono ?_
      rw [List.nil_append, Int.toNat_natCast]
      generalize digitsF m = ds at *
      rintro e w4 ⟨A2, c2, rfl, hown2, hb2⟩
      obtain ⟨g2, hz2, _, _, _⟩ := own_bytes hown2
      have HZ2 := Lib.hid hz2
      have HB4 : Hid (Below w.heap.size w w4) := HB3.out.trans (hb2.mono HB3.out.size)
      replace HR := Lib.hid (HR.out.keep hb2)
      replace HZ1 := Lib.hid (HZ1.out.keep hb2)
      clear hown2 hz2 hb2
      have hle' : (ds.length : Int) ≤ zs.length := by omega
      have hle2 : ds.length ≤ c := by omega
      have HZ3 : Hid (BytesAt w4 g A ds.length ds) := by
        have := HZ1.out.take ds.length hle
        rw [HT.out] at this
        exact this
      go_wp2_with fail
      refine (same_any A2 A ds.length ds.length c2 c g2 g ds ds _ HZ2.out HZ3.out).mono ?_
      rintro e w5 ⟨rfl, rfl⟩
      rw [show decide (ds = ds) = true by simp]
      go_wp2_with fail
      refine (end_any _ HR.out).mono ?_
      rintro e w5 ⟨rfl, rfl⟩
      by_cases hl : ds.length = zs.length
      · rw [HE.out.mpr hl]
        have hl1 : ((ds.length : Int) == zs.length) = true := by simp [hl]
        simp only [Int.natCast_zero]
        go_wp2
        go_ret
        exact ⟨rfl, HB4.out⟩
      · have h0 : ¬ endF (zs.drop ds.length, 0) = 0 := fun h => hl (HE.out.mp h)
        generalize endF (zs.drop ds.length, 0) = E at *
        have h1 : ((E : Int) == 0) = false := by simpa using h0
        have hl1 : ((ds.length : Int) == zs.length) = false := by simp; omega
        go_wp2
        go_ret
        exact ⟨rfl, HB4.out⟩
  · have h30' : ¬ ((30 : Int) < n) := by omega
    have hzl := hz.1
    subst hzl
    have HZ : Hid (BytesAt w g A bs.length bs) := hz
    clear hz
    generalize bs = zs at *
    go_enter Try.func5, Try.ntmps5
    go_wp2_with fail
    refine (read_any A c g zs _ HZ.out (by omega)).mono ?_
    rintro e w1 ⟨R, r1, rfl, hR, hlR, hlr, hb1⟩
    have HZ1 := Lib.hid (HZ.out.keep hb1)
    have HB1 := Lib.hid hb1
    have HR := Lib.hid hR
    clear hR hlr hb1
    go_wp2_with fail
    refine (num_any 9223372036854775807 _ HR.out).mono ?_
    rcases num_once zs with hbad | ⟨m, hm, hnum, htk, hle⟩
    · generalize numF (zs, 0) 9223372036854775807 = N at *
      obtain ⟨v, rs, er⟩ := N
      simp only at hbad
      rintro e w2 ⟨rfl, hR, hg, _⟩
      have HB2 : Hid (Below w.heap.size w w2) := below_one HB1.out hg HB1.out.size hlR
      replace HR := Lib.hid hR
      clear hR hg
      have hb0 : ((er : Int) != 0) = true := by simpa using hbad
      go_wp2_with fail
      refine (told_any _).mono ?_
      rintro e w3 ⟨rfl, hb3⟩
      have HB3 : Hid (Below w.heap.size w w3) := HB2.out.trans (hb3.mono HB2.out.size)
      replace HR := Lib.hid (HR.out.keep hb3)
      clear hb3
      go_wp2_with fail
      refine (err_any _ HR.out).mono ?_
      rintro e w4 ⟨rfl, rfl⟩
      go_wp2_with fail
      refine (told_any _).mono ?_
      rintro e w4 ⟨rfl, hb4⟩
      have HB4 : Hid (Below w.heap.size w w4) := HB3.out.trans (hb4.mono HB3.out.size)
      clear hb4
      go_wp2
      go_ret
      exact ⟨rfl, HB4.out⟩
    · rw [hnum]
      rintro e w2 ⟨rfl, hR, hg, _⟩
      have HB2 : Hid (Below w.heap.size w w2) := below_one HB1.out hg HB1.out.size hlR
      replace HR := Lib.hid hR
      replace HZ1 : Hid (BytesAt w2 g A zs.length zs) := HZ.out.keep HB2.out
      clear hR hg
      have hd9 : (digitsF m).length ≤ 9 := digits_le m (by omega)
      have hend : (endF (zs.drop (digitsF m).length, 0) = 0) ↔ (digitsF m).length = zs.length := by
        unfold endF
        simp only [ne_eq, not_true_eq_false, if_false]
        split
        · rename_i h
          have := List.drop_eq_nil_iff.mp h
          simp; omega
        · rename_i h
          have : ¬ zs.length ≤ (digitsF m).length := fun h' => h (List.drop_eq_nil_iff.mpr h')
          simp; omega
      have HE := Lib.hid hend
      have HT := Lib.hid htk
      clear hend htk hnum
      go_wp2_with fail
      refine (told_any _).mono ?_
      rintro e w3 ⟨rfl, hb3⟩
      have HB3 : Hid (Below w.heap.size w w3) := HB2.out.trans (hb3.mono HB2.out.size)
      replace HR := Lib.hid (HR.out.keep hb3)
      replace HZ1 := Lib.hid (HZ1.out.keep hb3)
      clear hb3
      go_wp2_with fail
      refine (err_any _ HR.out).mono ?_
      rintro e w4 ⟨rfl, rfl⟩
      simp only [Int.natCast_zero]
      go_wp2_with fail
      refine (put_any none 0 0 [] m _ (BytesAt.nil _ _ _) (by simp) (by omega)).mono ?_
      rw [List.nil_append, Int.toNat_natCast]
      generalize digitsF m = ds at *
      rintro e w4 ⟨A2, c2, rfl, hown2, hb2⟩
      obtain ⟨g2, hz2, _, _, _⟩ := own_bytes hown2
      have HZ2 := Lib.hid hz2
      have HB4 : Hid (Below w.heap.size w w4) := HB3.out.trans (hb2.mono HB3.out.size)
      replace HR := Lib.hid (HR.out.keep hb2)
      replace HZ1 := Lib.hid (HZ1.out.keep hb2)
      clear hown2 hz2 hb2
      have hle' : (ds.length : Int) ≤ zs.length := by omega
      have hle2 : ds.length ≤ c := by omega
      have HZ3 : Hid (BytesAt w4 g A ds.length ds) := by
        have := HZ1.out.take ds.length hle
        rw [HT.out] at this
        exact this
      go_wp2_with fail
      refine (same_any A2 A ds.length ds.length c2 c g2 g ds ds _ HZ2.out HZ3.out).mono ?_
      rintro e w5 ⟨rfl, rfl⟩
      rw [show decide (ds = ds) = true by simp]
      go_wp2_with fail
      refine (end_any _ HR.out).mono ?_
      rintro e w5 ⟨rfl, rfl⟩
      by_cases hl : ds.length = zs.length
      · rw [HE.out.mpr hl]
        have hl1 : ((ds.length : Int) == zs.length) = true := by simp [hl]
        simp only [Int.natCast_zero]
        go_wp2
        go_ret
        exact ⟨rfl, HB4.out⟩
      · have h0 : ¬ endF (zs.drop ds.length, 0) = 0 := fun h => hl (HE.out.mp h)
        generalize endF (zs.drop ds.length, 0) = E at *
        have h1 : ((E : Int) == 0) = false := by simpa using h0
        have hl1 : ((ds.length : Int) == zs.length) = false := by simp; omega
        go_wp2
        go_ret
        exact ⟨rfl, HB4.out⟩
end Go.Proofs.Ytekoedjadkglcaa
