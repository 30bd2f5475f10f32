/- WireLengths, walked. -/
import Derived.Test.YtekoedjadkglcaaBf
namespace Go.Proofs.Ytekoedjadkglcaa
open Go.RowKit

theorem textLen (n : Nat) (h : n ≤ 5000) : (digitsF n).length = if 128 ≤ n then 2 else 1 := by
  split
  · rename_i h1
    rw [digitsF_big h1, digitsF_small (by omega)]; rfl
  · rw [digitsF_small (by omega)]; rfl

set_option maxRecDepth 100000 in
set_option maxHeartbeats 2000000 in
theorem wireLengths_walk (n : Int) (s : ByteArray) (w : World) (hn : n ≤ 9223372036854775807) (hs : s.size ≤ 9223372036854775807) :
    Calls Try.prog 7 #[.int .i64 n, .string s] w fun e w' => e = .returned (.bool true) ∧ Below w.heap.size w w' := by
  have hd9 := digits_le n hn
  go_enter Try.func7, Try.ntmps7
  go_wp2
  all_goals
    go_loop [5, 6] (fun k x => ∃ m j : Nat, x = .int .i64 m ∧ k = .int .i64 j ∧ m ≤ 9223372036854775807 ∧ j ≤ 10 ∧ Hid (j + (digitsF m).length = 1 + (digitsF n.toNat).length)) (fun _ x => (intOf x).toNat)
    case atStart => exact ⟨n.toNat, 1, by congr 1; omega, rfl, by omega, by omega, rfl⟩
    case round =>
      obtain ⟨m, j, rfl, rfl, hm, hj, HD⟩ := hrel
      by_cases h128 : 128 ≤ m
      · have h1 : (128 : Int) ≤ m := by omega
        have HD2 : Hid (j + 1 + (digitsF (m / 128)).length = 1 + (digitsF n.toNat).length) := by
          have := HD.out
          rw [digitsF_big h128, List.length_cons] at this
          show _ = _
          omega
        have hp := digitsF_pos (m / 128)
        have hj1 : j + 1 ≤ 10 := by have := HD2.out; omega
        clear hp
        go_wp2
        go_round
        case rel => exact ⟨m / 128, j + 1, by go_num, by go_num, by omega, hj1, HD2⟩
        case measure => simp [intOf]; omega
      · have h1 : ¬ ((128 : Int) ≤ m) := by omega
        have hj2 : j = (digitsF n.toNat).length := by
          have := HD.out
          rw [digitsF_small (by omega)] at this
          simp at this
          omega
        clear HD
        by_cases h5 : 5000 < s.size
        · have h5' : (5000 : Int) < s.size := by omega
          go_wp2_with fail
          refine (told_any _).mono ?_
          rintro e w1 ⟨rfl, hb⟩
          have HB := Lib.hid hb
          clear hb
          go_wp2
          go_ret
          exact ⟨rfl, HB.out⟩
        · have h5' : ¬ ((5000 : Int) < s.size) := by omega
          have htl := textLen s.size (by omega)
          have HT : Hid ((digitsF s.size).length = if 128 ≤ s.size then 2 else 1) := htl
          clear htl
          have HZ9 : Hid (BytesAt (w.alloc (.cells #[.int .u8 9] 5)) w.heap.size (some ⟨w.heap.size, 0, none⟩) 1 [9]) := one_byte rfl (heap_alloc_new w _)
          subst hj2
          by_cases h6 : 128 ≤ s.size
          · have h6' : (128 : Int) ≤ s.size := by omega
            rw [if_pos h6] at HT
            go_wp2_with fail
            refine (put_any _ 1 w.heap.size [9] n _ HZ9.out (by simp) hn).mono ?_
            rintro e w1 ⟨A1, c1, rfl, hown1, hb1⟩
            obtain ⟨g1, hz1, _, _, hlc1⟩ := own_bytes hown1
            have hl1 : ([9] ++ digitsF n.toNat).length = (digitsF n.toNat).length + 1 := by simp
            obtain ⟨off, rfl, hc⟩ := hz1.2 (by rw [hl1]; omega)
            have q9 : w1.cell? ⟨g1, off, none⟩ = some (.int .u8 9) := by have := hc 0 (by rw [hl1]; omega); simpa using this
            have hlt1 : g1 < w1.heap.size := World.block_lt_of_cell? w1 _ q9
            have HB1 : Hid (Below w.heap.size w w1) := ((Below.refl _ _).alloc (Nat.le_refl _) _).trans (hb1.mono (by simp))
            rw [hl1]
            clear hown1 hb1 hz1 hc HZ9 hl1 hlc1
            generalize (digitsF n.toNat).length = L at *
            go_wp2_with fail
            refine (putText_any none 0 0 [] s _ (BytesAt.nil _ _ _) (by simp) (by omega)).mono ?_
            rintro e w2 ⟨A2, c2, rfl, hown2, hb2⟩
            have hl2 : ([] ++ (digitsF s.size ++ s.data.toList)).length = (digitsF s.size).length + s.size := by simp
            rw [hl2, HT.out]
            have r9 := (hb2.cell (p := ⟨g1, off, none⟩) hlt1).trans q9
            have hlt2 := Nat.lt_of_lt_of_le hlt1 hb2.size
            have HB2 : Hid (Below w.heap.size w w2) := HB1.out.trans (hb2.mono HB1.out.size)
            clear hown2 hb2 q9 HB1 hl2
            go_wp2_with fail
            refine (told_any _).mono ?_
            rintro e w3 ⟨rfl, hb3⟩
            have s9 := (hb3.cell (p := ⟨g1, off, none⟩) hlt2).trans r9
            have HB3 : Hid (Below w.heap.size w w3) := HB2.out.trans (hb3.mono HB2.out.size)
            clear hb3 r9 HB2
            have e1 : ((((L + 1 : Nat) : Int)) == 1 + (L : Int)) = true := by simp; omega
            have hLp : (0 : Int) < ((L + 1 : Nat) : Int) := by omega
            go_wp2
            go_ret
            exact ⟨rfl, HB3.out⟩
          · have h6' : ¬ ((128 : Int) ≤ s.size) := by omega
            rw [if_neg h6] at HT
            go_wp2_with fail
            refine (put_any _ 1 w.heap.size [9] n _ HZ9.out (by simp) hn).mono ?_
            rintro e w1 ⟨A1, c1, rfl, hown1, hb1⟩
            obtain ⟨g1, hz1, _, _, hlc1⟩ := own_bytes hown1
            have hl1 : ([9] ++ digitsF n.toNat).length = (digitsF n.toNat).length + 1 := by simp
            obtain ⟨off, rfl, hc⟩ := hz1.2 (by rw [hl1]; omega)
            have q9 : w1.cell? ⟨g1, off, none⟩ = some (.int .u8 9) := by have := hc 0 (by rw [hl1]; omega); simpa using this
            have hlt1 : g1 < w1.heap.size := World.block_lt_of_cell? w1 _ q9
            have HB1 : Hid (Below w.heap.size w w1) := ((Below.refl _ _).alloc (Nat.le_refl _) _).trans (hb1.mono (by simp))
            rw [hl1]
            clear hown1 hb1 hz1 hc HZ9 hl1 hlc1
            generalize (digitsF n.toNat).length = L at *
            go_wp2_with fail
            refine (putText_any none 0 0 [] s _ (BytesAt.nil _ _ _) (by simp) (by omega)).mono ?_
            rintro e w2 ⟨A2, c2, rfl, hown2, hb2⟩
            have hl2 : ([] ++ (digitsF s.size ++ s.data.toList)).length = (digitsF s.size).length + s.size := by simp
            rw [hl2, HT.out]
            have r9 := (hb2.cell (p := ⟨g1, off, none⟩) hlt1).trans q9
            have hlt2 := Nat.lt_of_lt_of_le hlt1 hb2.size
            have HB2 : Hid (Below w.heap.size w w2) := HB1.out.trans (hb2.mono HB1.out.size)
            clear hown2 hb2 q9 HB1 hl2
            go_wp2_with fail
            refine (told_any _).mono ?_
            rintro e w3 ⟨rfl, hb3⟩
            have s9 := (hb3.cell (p := ⟨g1, off, none⟩) hlt2).trans r9
            have HB3 : Hid (Below w.heap.size w w3) := HB2.out.trans (hb3.mono HB2.out.size)
            clear hb3 r9 HB2
            have e1 : ((((L + 1 : Nat) : Int)) == 1 + (L : Int)) = true := by simp; omega
            have hLp : (0 : Int) < ((L + 1 : Nat) : Int) := by omega
            go_wp2
            go_ret
            exact ⟨rfl, HB3.out⟩
end Go.Proofs.Ytekoedjadkglcaa
