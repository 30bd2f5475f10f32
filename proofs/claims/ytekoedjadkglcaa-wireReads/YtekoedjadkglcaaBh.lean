/- WireMosts, walked. -/
import Derived.Test.YtekoedjadkglcaaBf
namespace Go.Proofs.Ytekoedjadkglcaa
open Go.RowKit

theorem text_string (s : ByteArray) : (ByteArray.mk s.data.toList.toArray) = s := by cases s; rfl
theorem num_stuck (bs : List UInt8) (most : Int) : numF (bs, 3) most = (0, (bs, 3)) := by simp [numF]
theorem text_stuck (bs : List UInt8) (most : Int) : textF (bs, 3) most = ([], (bs, 3)) := by simp [textF, num_stuck]
theorem below_other {w w' : World} {B : Nat} {R : Nat} {a : World} (h : Below B a w) (hg : w.grownBy w' (some R)) (hB : B ≤ w.heap.size) (hR : B ≤ R) : Below B a w' := h.grown hg hB (fun k e => by injection e with e; omega)

set_option maxRecDepth 100000 in
set_option maxHeartbeats 4000000 in
theorem wireMosts_walk (n : Int) (s : ByteArray) (less : Int) (w : World) (hn : n ≤ 9223372036854775807) (hs : s.size ≤ 9223372036854775807) (_hl : less ≤ 9223372036854775807) :
    Calls Try.prog 8 #[.int .i64 n, .string s, .int .i64 less] w fun e w' => e = .returned (.bool true) ∧ Below w.heap.size w w' := by
  obtain ⟨d0, hd0, hd4⟩ : ∃ d : Nat, (IntKind.u64.wrap less).tmod 5 = (d : Int) ∧ d ≤ 4 := by
    have h0 : 0 ≤ IntKind.u64.wrap less := by show 0 ≤ less % 18446744073709551616; omega
    refine ⟨((IntKind.u64.wrap less) % 5).toNat, ?_, by omega⟩
    rw [Int.tmod_eq_emod_of_nonneg h0]
    omega
  by_cases h3 : 300 < s.size
  · have h3' : (300 : Int) < s.size := by omega
    go_enter Try.func8, Try.ntmps8
    go_wp2_with fail
    all_goals
      refine (told_any _).mono ?_
      rintro e w1 ⟨rfl, hb⟩
      have HB := Lib.hid hb
      clear hb
      go_wp2
      go_ret
      exact ⟨rfl, HB.out⟩
  · have h3' : ¬ ((300 : Int) < s.size) := by omega
    by_cases hneg : n < 0
    · have hneg' : (n < 0) = True := by simp [hneg]
      go_enter Try.func8, Try.ntmps8
      go_wp2_with fail
      refine (put_any none 0 0 [] 0 _ (BytesAt.nil _ _ _) (by simp) (by omega)).mono ?_
      have hd9 : (digitsF 0).length ≤ 9 := digits_le 0 (by omega)
      have HN1 := Lib.hid (num_digits (n := 0) (by decide) (digitsF s.size ++ s.data.toList) (most := 0) (by omega))
      have HN2 : Hid (∀ most : Int, most < 0 → numF (digitsF 0 ++ (digitsF s.size ++ s.data.toList), 0) most = (0, (digitsF 0 ++ (digitsF s.size ++ s.data.toList), 3))) := fun most hm => num_above (n := 0) (by decide) (digitsF s.size ++ s.data.toList) (by omega)
      have HT1 : Hid (textF (digitsF s.size ++ s.data.toList, 0) s.size = (s.data.toList, ([], 0))) := by
        have := text_digits (s := s.data.toList) (by simp; omega) [] (most := (s.size : Int)) (by simp)
        simpa [Hid] using this
      rw [show ((0 : Nat) : Int) = 0 from rfl] at HN1
      rw [show (0 : Int).toNat = 0 from rfl]
      generalize digitsF 0 = ds at *
      rw [List.nil_append]
      rintro e w1 ⟨A1, c1, rfl, hown1, hb1⟩
      obtain ⟨g1, hz1, _, _, _⟩ := own_bytes hown1
      have HZ1 := Lib.hid hz1
      have HB1 := Lib.hid hb1
      clear hown1 hz1 hb1
      go_wp2_with fail
      refine (putText_any A1 c1 g1 ds s _ HZ1.out (by omega) (by omega)).mono ?_
      have hlz : (ds ++ (digitsF s.size ++ s.data.toList)).length ≤ 1000 := by
        have := digits_le s.size (by omega)
        rw [Int.toNat_natCast] at this
        simp
        omega
      generalize digitsF s.size ++ s.data.toList = rs at *
      generalize hzs : ds ++ rs = zs at *
      clear hzs
      rintro e w2 ⟨A2, c2, rfl, hown2, hb2⟩
      obtain ⟨g2, hz2, _, _, _⟩ := own_bytes hown2
      have HZ2 := Lib.hid hz2
      have HB2 : Hid (Below w.heap.size w w2) := HB1.out.trans (hb2.mono HB1.out.size)
      clear hown2 hz2 hb2 HB1 HZ1
      go_wp2_with fail
      refine (read_any A2 c2 g2 zs _ HZ2.out (by omega)).mono ?_
      rintro e w3 ⟨R1, r1, rfl, hR1, hlR1, hlr1, hb3⟩
      have HZ3 := Lib.hid (HZ2.out.keep hb3)
      have HB3 : Hid (Below w.heap.size w w3) := HB2.out.trans (hb3.mono HB2.out.size)
      have HR1 := Lib.hid hR1
      have hw1 : w.heap.size ≤ R1 := Nat.le_trans HB2.out.size hlR1
      clear hR1 hlR1 hlr1 hb3 HB2 HZ2
      go_wp2_with fail
      refine (read_any A2 c2 g2 zs _ HZ3.out (by omega)).mono ?_
      rintro e w4 ⟨R2, r2, rfl, hR2, hlR2, hlr2, hb4⟩
      have hne : R2 ≠ R1 := by have := HR1.out.lt; omega
      have hne2 : zs ≠ [] → r2 ≠ R1 := fun h => by have := HR1.out.lt; have := hlr2 h; omega
      have hw2 : w.heap.size ≤ R2 := Nat.le_trans HB3.out.size hlR2
      have HB4 : Hid (Below w.heap.size w w4) := HB3.out.trans (hb4.mono HB3.out.size)
      replace HR1 := Lib.hid (HR1.out.keep hb4)
      have HR2 := Lib.hid hR2
      have HNE := Lib.hid (And.intro hne hne2)
      clear hR2 hlR2 hlr2 hb4 HB3 HZ3 hne hne2
      go_wp2_with fail
      refine (told_any _).mono ?_
      rintro e w5 ⟨rfl, hb5⟩
      have HB5 : Hid (Below w.heap.size w w5) := HB4.out.trans (hb5.mono HB4.out.size)
      replace HR1 := Lib.hid (HR1.out.keep hb5)
      replace HR2 := Lib.hid (HR2.out.keep hb5)
      clear hb5 HB4
      go_wp2_with fail
      refine (num_any 0 _ HR1.out).mono ?_
      rw [HN1.out]
      rintro e w6 ⟨rfl, hR, hg, _⟩
      have HB6 : Hid (Below w.heap.size w w6) := below_other HB5.out hg HB5.out.size hw1
      replace HR2 := Lib.hid (HR2.out.other hg HNE.out.1 HNE.out.2)
      replace HR1 := Lib.hid hR
      clear hR hg HB5
      go_wp2_with fail
      refine (text_any s.size _ HR1.out).mono ?_
      rw [HT1.out]
      rintro e w7 ⟨rfl, hR, hg, _⟩
      have HB7 : Hid (Below w.heap.size w w7) := below_other HB6.out hg HB6.out.size hw1
      replace HR2 := Lib.hid (HR2.out.other hg HNE.out.1 HNE.out.2)
      replace HR1 := Lib.hid hR
      clear hR hg HB6
      rw [text_string]
      go_wp2_with fail
      refine (end_any _ HR1.out).mono ?_
      rintro e w8 ⟨rfl, rfl⟩
      rw [show ((endF (([] : List UInt8), 0) : Nat) : Int) = 0 from rfl]
      by_cases hmd : 0 < 1 + (d0 : Int)
      · go_wp2
        go_ret
        exact ⟨rfl, HB7.out⟩
      · omega
    · have hneg' : (n < 0) = False := by simp [hneg]
      go_enter Try.func8, Try.ntmps8
      go_wp2_with fail
      refine (put_any none 0 0 [] n _ (BytesAt.nil _ _ _) (by simp) (by omega)).mono ?_
      have hd9 : (digitsF n.toNat).length ≤ 9 := digits_le n (by omega)
      have HN1 := Lib.hid (num_digits (n := n.toNat) (by rw [show (128 : Nat) ^ 9 = 9223372036854775808 by decide]; omega) (digitsF s.size ++ s.data.toList) (most := n) (by omega))
      have HN2 : Hid (∀ most : Int, most < n → numF (digitsF n.toNat ++ (digitsF s.size ++ s.data.toList), 0) most = (0, (digitsF n.toNat ++ (digitsF s.size ++ s.data.toList), 3))) := fun most hm => num_above (n := n.toNat) (by rw [show (128 : Nat) ^ 9 = 9223372036854775808 by decide]; omega) (digitsF s.size ++ s.data.toList) (by omega)
      have HT1 : Hid (textF (digitsF s.size ++ s.data.toList, 0) s.size = (s.data.toList, ([], 0))) := by
        have := text_digits (s := s.data.toList) (by simp; omega) [] (most := (s.size : Int)) (by simp)
        simpa [Hid] using this
      rw [show (n.toNat : Int) = n by omega] at HN1
      generalize digitsF n.toNat = ds at *
      rw [List.nil_append]
      rintro e w1 ⟨A1, c1, rfl, hown1, hb1⟩
      obtain ⟨g1, hz1, _, _, _⟩ := own_bytes hown1
      have HZ1 := Lib.hid hz1
      have HB1 := Lib.hid hb1
      clear hown1 hz1 hb1
      go_wp2_with fail
      refine (putText_any A1 c1 g1 ds s _ HZ1.out (by omega) (by omega)).mono ?_
      have hlz : (ds ++ (digitsF s.size ++ s.data.toList)).length ≤ 1000 := by
        have := digits_le s.size (by omega)
        rw [Int.toNat_natCast] at this
        simp
        omega
      generalize digitsF s.size ++ s.data.toList = rs at *
      generalize hzs : ds ++ rs = zs at *
      clear hzs
      rintro e w2 ⟨A2, c2, rfl, hown2, hb2⟩
      obtain ⟨g2, hz2, _, _, _⟩ := own_bytes hown2
      have HZ2 := Lib.hid hz2
      have HB2 : Hid (Below w.heap.size w w2) := HB1.out.trans (hb2.mono HB1.out.size)
      clear hown2 hz2 hb2 HB1 HZ1
      go_wp2_with fail
      refine (read_any A2 c2 g2 zs _ HZ2.out (by omega)).mono ?_
      rintro e w3 ⟨R1, r1, rfl, hR1, hlR1, hlr1, hb3⟩
      have HZ3 := Lib.hid (HZ2.out.keep hb3)
      have HB3 : Hid (Below w.heap.size w w3) := HB2.out.trans (hb3.mono HB2.out.size)
      have HR1 := Lib.hid hR1
      have hw1 : w.heap.size ≤ R1 := Nat.le_trans HB2.out.size hlR1
      clear hR1 hlR1 hlr1 hb3 HB2 HZ2
      go_wp2_with fail
      refine (read_any A2 c2 g2 zs _ HZ3.out (by omega)).mono ?_
      rintro e w4 ⟨R2, r2, rfl, hR2, hlR2, hlr2, hb4⟩
      have hne : R2 ≠ R1 := by have := HR1.out.lt; omega
      have hne2 : zs ≠ [] → r2 ≠ R1 := fun h => by have := HR1.out.lt; have := hlr2 h; omega
      have hw2 : w.heap.size ≤ R2 := Nat.le_trans HB3.out.size hlR2
      have HB4 : Hid (Below w.heap.size w w4) := HB3.out.trans (hb4.mono HB3.out.size)
      replace HR1 := Lib.hid (HR1.out.keep hb4)
      have HR2 := Lib.hid hR2
      have HNE := Lib.hid (And.intro hne hne2)
      clear hR2 hlR2 hlr2 hb4 HB3 HZ3 hne hne2
      go_wp2_with fail
      refine (told_any _).mono ?_
      rintro e w5 ⟨rfl, hb5⟩
      have HB5 : Hid (Below w.heap.size w w5) := HB4.out.trans (hb5.mono HB4.out.size)
      replace HR1 := Lib.hid (HR1.out.keep hb5)
      replace HR2 := Lib.hid (HR2.out.keep hb5)
      clear hb5 HB4
      go_wp2_with fail
      refine (num_any n _ HR1.out).mono ?_
      rw [HN1.out]
      rintro e w6 ⟨rfl, hR, hg, _⟩
      have HB6 : Hid (Below w.heap.size w w6) := below_other HB5.out hg HB5.out.size hw1
      replace HR2 := Lib.hid (HR2.out.other hg HNE.out.1 HNE.out.2)
      replace HR1 := Lib.hid hR
      clear hR hg HB5
      go_wp2_with fail
      refine (text_any s.size _ HR1.out).mono ?_
      rw [HT1.out]
      rintro e w7 ⟨rfl, hR, hg, _⟩
      have HB7 : Hid (Below w.heap.size w w7) := below_other HB6.out hg HB6.out.size hw1
      replace HR2 := Lib.hid (HR2.out.other hg HNE.out.1 HNE.out.2)
      replace HR1 := Lib.hid hR
      clear hR hg HB6
      rw [text_string]
      go_wp2_with fail
      refine (end_any _ HR1.out).mono ?_
      rintro e w8 ⟨rfl, rfl⟩
      rw [show ((endF (([] : List UInt8), 0) : Nat) : Int) = 0 from rfl]
      by_cases hmd : n < 1 + (d0 : Int)
      · go_wp2
        go_ret
        exact ⟨rfl, HB7.out⟩
      · go_wp2_with fail
        refine (num_any (n - (1 + (d0 : Int))) _ HR2.out).mono ?_
        rw [HN2.out _ (by omega)]
        rintro e w9 ⟨rfl, hR, hg, _⟩
        have HB9 : Hid (Below w.heap.size w w9) := below_other HB7.out hg HB7.out.size hw2
        replace HR2 := Lib.hid hR
        clear hR hg HB7 HR1
        go_wp2_with fail
        refine (err_any _ HR2.out).mono ?_
        rintro e w10 ⟨rfl, rfl⟩
        rw [show (((zs, 3) : Rd).2 : Int) = 3 from rfl]
        go_wp2_with fail
        refine (text_any 300 _ HR2.out).mono ?_
        rw [text_stuck]
        rintro e w10 ⟨rfl, hR, hg, _⟩
        have HB10 : Hid (Below w.heap.size w w10) := below_other HB9.out hg HB9.out.size hw2
        replace HR2 := Lib.hid hR
        clear hR hg HB9
        go_wp2_with fail
        refine (num_any n _ HR2.out).mono ?_
        rw [num_stuck]
        rintro e w11 ⟨rfl, hR, hg, _⟩
        have HB11 : Hid (Below w.heap.size w w11) := below_other HB10.out hg HB10.out.size hw2
        replace HR2 := Lib.hid hR
        clear hR hg HB10
        go_wp2_with fail
        refine (end_any _ HR2.out).mono ?_
        rintro e w12 ⟨rfl, rfl⟩
        rw [show ((endF (zs, 3) : Nat) : Int) = 3 from rfl]
        go_wp2
        go_ret
        exact ⟨rfl, HB11.out⟩
end Go.Proofs.Ytekoedjadkglcaa
