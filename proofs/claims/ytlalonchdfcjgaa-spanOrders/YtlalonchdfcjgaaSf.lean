/- span.Add of a number that may be; the law's own little check 'told'. -/
import Derived.Test.YtlalonchdfcjgaaSe
namespace Go.Proofs.Ytlalonchdfcjgaa
open Go.RowKit

set_option maxHeartbeats 1000000 in
theorem add_yes (u : Int) (A : Option Addr) (n c : Nat) (zs : List Int) (m : Int) (B : Nat) (w : World) (hB : B ≤ w.heap.size) (hz : IntsAt w B A n zs) (hnc : n ≤ c) (hn : n ≤ 1073741824) (h1 : 1 ≤ m) (h2 : m ≤ 1048576) :
    Calls Try.prog 15 #[.agg #[.int .i64 u, .slice A n c], .int .i64 m] w (OwnSpan w.heap.size none (unionF (u, zs) (0, [m])) w) := by
  have HZ := Lib.hid hz
  clear hz
  go_enter Try.func15, Try.ntmps15
  go_wp2_with fail
  refine (union_any u 0 A n c zs (some ⟨w.heap.size + 2, 0, none⟩) 1 1 [m] (w.heap.size + 3) _ (by simp) ?_ ?_ hnc (by omega) hn (by omega)).mono ?_
  · exact (HZ.out.keep ((((Below.refl _ _).alloc hB _).alloc (by simp; omega) _).alloc (by simp; omega) _)).more (by omega)
  · have := one_int ((w.alloc (Obj.cells #[Value.int IntKind.i64 u, Value.slice A n c] 27)).alloc (Obj.cells #[Value.int IntKind.i64 0, Value.slice none 0 0] 27)) m
    simpa using this
  generalize hs : unionF (u, zs) (0, [m]) = s1
  have HS := Lib.hid hs
  clear hs
  obtain ⟨u1, z1⟩ := s1
  rintro e w1 ⟨A1, c1, rfl, hown, hg, hl⟩
  have hb : Below (((w.alloc (Obj.cells #[Value.int IntKind.i64 u, Value.slice A n c] 27)).alloc (Obj.cells #[Value.int IntKind.i64 0, Value.slice none 0 0] 27)).alloc (Obj.cells #[Value.int IntKind.i64 m] 3)).heap.size _ w1 := ⟨hg.os, hg.tape, hg.output, hg.size, fun k hk => hg.block k hk (by simp)⟩
  have k10 : w1.cell? ⟨w.heap.size + 1, 0, none⟩ = some (.int .i64 0) := (hb.cell (by simp)).trans (by simp [go_sem])
  have k11 : w1.cell? ⟨w.heap.size + 1, 1, none⟩ = some (.slice none 0 0) := (hb.cell (by simp)).trans (by simp [go_sem])
  have f10 : w1.frozen? ⟨w.heap.size + 1, 0, none⟩ = false := (hb.frozen (by simp)).trans (by simp [go_sem])
  have f11 : w1.frozen? ⟨w.heap.size + 1, 1, none⟩ = false := (hb.frozen (by simp)).trans (by simp [go_sem])
  have HB : Hid (Below w.heap.size w w1) := ((((Below.refl _ _).alloc (Nat.le_refl _) _).alloc (by simp) _).alloc (by simp; omega) _).trans (hb.mono (by simp; omega))
  have HO : Hid (w1.ownsRow (w.heap.size + 3) 3 1 (.slice A1 z1.length c1) z1.length (z1.map (.int .i64))) := own_base hown (by simp)
  clear hown hg hl hb
  go_wp2
  refine bodyPost_ret (v := .agg #[.int .i64 u1, .slice A1 z1.length c1]) ?_ rfl ?_
  · simp [results, Try.results15, go_sem, k10, k11]
  · have hn4 : Value.ownBlock (.slice A1 z1.length c1) ≠ some (w.heap.size + 1) := fun e => by have := (HO.out.lt _ e).1; omega
    exact ownSpan_of HS.out rfl (own_base (own_setCell (own_setCell HO.out (p := ⟨w.heap.size + 1, 0, none⟩) hn4 _) (p := ⟨w.heap.size + 1, 1, none⟩) hn4 _) (by omega)) (grown_of_below ((HB.out.setCell (by simp) _).setCell (by simp) _) _) (lies_own HO.out (by omega))

theorem grown_none {w w' : World} (hg : w.grownBy w' none) : Below w.heap.size w w' := ⟨hg.os, hg.tape, hg.output, hg.size, fun k hk => hg.block k hk (by simp)⟩

theorem told_union : unionF (1, [3, 4]) (0, [2]) = (4, []) := by
  have h : mergeF [3, 4] [2] = [2, 3, 4] := by unfold mergeF; simp
  unfold unionF
  simp only [h]
  decide

theorem two_ints (w : World) (a b : Int) : IntsAt (w.alloc (.cells #[.int .i64 a, .int .i64 b] 3)) (w.heap.size + 1) (some ⟨w.heap.size, 0, none⟩) 2 [a, b] :=
  ⟨rfl, fun _ => ⟨_, _, rfl, by omega, fun k hk => by
    rcases (show k = 0 ∨ k = 1 by omega) with rfl | rfl <;> simp⟩⟩

set_option maxHeartbeats 1000000 in
theorem told_any (w : World) : Calls Try.prog 10 #[] w fun e w' => e = .returned (.bool true) ∧ Below w.heap.size w w' := by
  go_enter Try.func10, Try.ntmps10
  go_wp2_with fail
  refine (add_yes 1 (some ⟨w.heap.size, 0, none⟩) 2 2 [3, 4] 2 (w.heap.size + 1) _ (by simp) (two_ints w 3 4) (by omega) (by omega) (by omega) (by omega)).mono ?_
  rw [told_union]
  rintro e w1 ⟨A1, c1, rfl, hown, hg, hl⟩
  have HB : Hid (Below w.heap.size w w1) := ((Below.refl _ _).alloc (Nat.le_refl _) _).trans ((grown_none hg).mono (by simp))
  have hz : w.heap.size ≤ w1.heap.size := HB.out.size
  clear hown hg hl
  go_wp2_with fail
  refine (has_any 4 A1 0 c1 [] 4 0 _ (by omega) (IntsAt.nil _ _ _) (by omega) List.Pairwise.nil).mono ?_
  rintro e w2 ⟨rfl, hb2⟩
  rw [show hasOf 4 [] 4 = true by decide]
  have k0 : w2.cell? ⟨w1.heap.size, 0, none⟩ = some (.int .i64 4) := (hb2.cell (by simp)).trans (by simp [go_sem])
  have k1 : w2.cell? ⟨w1.heap.size, 1, none⟩ = some (.slice A1 0 c1) := (hb2.cell (by simp)).trans (by simp [go_sem])
  have HB2 : Hid (Below w.heap.size w w2) := (HB.out.alloc hz _).trans (hb2.mono (by simp; omega))
  clear hb2
  go_wp2_with fail
  refine (count_any 4 A1 0 c1 _ (by omega) (by omega) (by omega)).mono ?_
  rintro e w3 ⟨rfl, hb3⟩
  have HB3 : Hid (Below w.heap.size w w3) := HB2.out.trans (hb3.mono HB2.out.size)
  clear hb3
  go_wp2_with fail
  refine (first_any 9 _).mono ?_
  rintro e w4 ⟨rfl, hb4⟩
  rw [show firstU 9 = 9 by decide]
  have HB4 : Hid (Below w.heap.size w w4) := HB3.out.trans (hb4.mono HB3.out.size)
  clear hb4
  go_wp2_with fail
  refine (top_any 9 none 0 0 [] 0 _ (by omega) (IntsAt.nil _ _ _) (by omega)).mono ?_
  rintro e w5 ⟨rfl, hb5⟩
  rw [show topOf 9 [] = 9 by decide]
  have HB5 : Hid (Below w.heap.size w w5) := HB4.out.trans (hb5.mono HB4.out.size)
  clear hb5
  go_wp2
  go_ret
  exact ⟨rfl, HB5.out⟩

set_option maxHeartbeats 1000000 in
theorem spanFirsts_walk (n k : Int) (w : World) :
    Calls Try.prog 6 #[.int .i64 n, .int .i64 k] w fun e w' => e = .returned (.bool true) ∧ Below w.heap.size w w' := by

  go_enter Try.func6, Try.ntmps6
  go_wp2_with fail
  refine (first_any n _).mono ?_
  have hm : 0 ≤ firstU n ∧ firstU n ≤ 1048576 := by unfold firstU; omega
  have hmm : firstU n = max 0 (min n 1048576) := by unfold firstU; omega
  have HM := Lib.hid hmm
  generalize firstU n = m at hm HM ⊢
  clear hmm
  obtain ⟨hm0, hm1⟩ := hm
  rintro e w1 ⟨rfl, hb1⟩
  have HB1 := Lib.hid hb1
  clear hb1
  go_upto_region 2 with fail
  go_cut [6] (fun s6 wx => s6 = .int .i64 m ∧ wx.cell? ⟨w1.heap.size, 0, none⟩ = some (.int .i64 m) ∧ wx.cell? ⟨w1.heap.size, 1, none⟩ = some (.slice none 0 0) ∧ w1.heap.size < wx.heap.size ∧ Hid (Below w.heap.size w wx))
  case first =>
    go_wp2
    all_goals
      go_meet
      case rel =>
        refine ⟨?_, by simp [go_sem], by simp [go_sem], by simp, HB1.out.alloc HB1.out.size _⟩
        congr 1
        have := HM.out
        omega
  case rest =>
    obtain ⟨rfl, k0, k1, hsz, HB2⟩ := hcut
    go_wp2_with fail
    refine (told_any _).mono ?_
    rintro e w3 ⟨rfl, hb3⟩
    have q0 := (hb3.cell (p := ⟨w1.heap.size, 0, none⟩) hsz).trans k0
    have q1 := (hb3.cell (p := ⟨w1.heap.size, 1, none⟩) hsz).trans k1
    have HB3 : Hid (Below w.heap.size w w3) := HB2.out.trans (hb3.mono HB2.out.size)
    have hsz3 : w1.heap.size < w3.heap.size := Nat.lt_of_lt_of_le hsz hb3.size
    clear hb3 k0 k1
    go_wp2_with fail
    refine (count_any m none 0 0 _ hm0 hm1 (by omega)).mono ?_
    rintro e w4 ⟨rfl, hb4⟩
    have r0 := (hb4.cell (p := ⟨w1.heap.size, 0, none⟩) hsz3).trans q0
    have r1 := (hb4.cell (p := ⟨w1.heap.size, 1, none⟩) hsz3).trans q1
    have HB4 : Hid (Below w.heap.size w w4) := HB3.out.trans (hb4.mono HB3.out.size)
    clear hb4 q0 q1
    rw [show m + ((0 : Nat) : Int) = m by omega]
    go_wp2_with fail
    refine (has_any m none 0 0 [] k 0 _ (by omega) (IntsAt.nil _ _ _) (by omega) List.Pairwise.nil).mono ?_
    rintro e w5 ⟨rfl, hb5⟩
    have HB5 : Hid (Below w.heap.size w w5) := HB4.out.trans (hb5.mono HB4.out.size)
    clear hb5 r0 r1
    by_cases h1 : 1 ≤ k
    · by_cases h2 : k ≤ m
      · rw [show hasOf m [] k = true by simp [hasOf, h1, h2]]
        go_wp2
        go_ret
        exact ⟨rfl, HB5.out⟩
      · rw [show hasOf m [] k = false by simp [hasOf, h2]]
        have h2' : decide (k ≤ m) = false := by simpa using h2
        go_wp2
        go_ret
        exact ⟨rfl, HB5.out⟩
    · have h1' : decide (1 ≤ k) = false := by simpa using h1
      rw [show hasOf m [] k = false by simp [hasOf, h1]]
      go_wp2
      go_ret
      exact ⟨rfl, HB5.out⟩
end Go.Proofs.Ytlalonchdfcjgaa
