/- The law's own little check 'told'. -/
import Derived.Test.YthjmadlinkcphaaVg
namespace Go.Proofs.Ythjmadlinkcphaa
open Go.RowKit

theorem told_1 : setF [] (ByteArray.mk #[48, 49]) 2 = [(ByteArray.mk #[48, 49], 2)] := by
  unfold setF
  rw [if_pos (by decide)]
  simp only [joinF]
  rfl
theorem told_2 : setF [(ByteArray.mk #[48, 49], 2)] (ByteArray.mk #[48]) 3 = [(ByteArray.mk #[48], 3), (ByteArray.mk #[48, 49], 2)] := by
  unfold setF
  rw [if_pos (by decide), joinF_gt (by decide), joinF_nil]
  rfl
theorem told_3 : setF [] (ByteArray.mk #[48]) 1 = [(ByteArray.mk #[48], 1)] := by
  unfold setF
  rw [if_pos (by decide)]
  simp only [joinF]
  rfl
theorem told_4 : meetF [(ByteArray.mk #[48], 3), (ByteArray.mk #[48, 49], 2)] [(ByteArray.mk #[48], 1)] = [(ByteArray.mk #[48], 1)] := by decide
theorem told_5 : Rising [(ByteArray.mk #[48], 3), (ByteArray.mk #[48, 49], 2)] := by unfold Rising; decide
theorem told_6 : Rising [(ByteArray.mk #[48], 1)] := by unfold Rising; decide
theorem told_7 : withinF [(ByteArray.mk #[48], 1)] [(ByteArray.mk #[48], 3), (ByteArray.mk #[48, 49], 2)] = true := by decide
theorem told_8 : withinF [(ByteArray.mk #[48], 3), (ByteArray.mk #[48, 49], 2)] [(ByteArray.mk #[48], 1)] = false := by decide
theorem told_9 : rightV [(ByteArray.mk #[48], 3), (ByteArray.mk #[48, 49], 2)] = true := by decide
theorem told_10 : ofF [(ByteArray.mk #[48], 3), (ByteArray.mk #[48, 49], 2)] (ByteArray.mk #[48, 49]) = 2 := by decide

set_option maxRecDepth 100000 in
set_option maxHeartbeats 4000000 in
theorem told_any (w : World) : Calls Try.prog 8 #[] w fun e w' => e = .returned (.bool true) ∧ Below w.heap.size w w' := by
  go_enter Try.func8, Try.ntmps8
  go_wp2_with fail
  refine (set_any none 0 0 [] (ByteArray.mk #[48, 49]) 2 0 _ (by omega) (VecAt.nil _ _ _) (by omega) (by omega)).mono ?_
  rw [told_1]
  rintro e w1 ⟨A1, c1, rfl, hc1, ho1, hb1⟩
  have HO1 : Hid (VecAt w1 w1.heap.size A1 1 [(ByteArray.mk #[48, 49], 2)]) := own_vec ho1
  have HB1 := Lib.hid hb1
  have hd1 : 1 ≤ c1 := hc1
  clear ho1 hb1 hc1
  go_wp2_with fail
  refine (set_any A1 1 c1 [(ByteArray.mk #[48, 49], 2)] (ByteArray.mk #[48]) 3 w1.heap.size _ (Nat.le_refl _) HO1.out hd1 (by omega)).mono ?_
  rw [told_2]
  rintro e w2 ⟨A2, c2, rfl, hc2, ho2, hb2⟩
  have HO2 : Hid (VecAt w2 w2.heap.size A2 2 [(ByteArray.mk #[48], 3), (ByteArray.mk #[48, 49], 2)]) := own_vec ho2
  have HB2 : Hid (Below w.heap.size w w2) := HB1.out.trans (hb2.mono HB1.out.size)
  have hd2 : 2 ≤ c2 := hc2
  clear ho2 hb2 hc2
  go_wp2_with fail
  refine (set_any none 0 0 [] (ByteArray.mk #[48]) 1 0 _ (by omega) (VecAt.nil _ _ _) (by omega) (by omega)).mono ?_
  rw [told_3]
  rintro e w3 ⟨A3, c3, rfl, hc3, ho3, hb3⟩
  have HO3 : Hid (VecAt w3 w3.heap.size A3 1 [(ByteArray.mk #[48], 1)]) := own_vec ho3
  have HO2' : Hid (VecAt w3 w3.heap.size A2 2 [(ByteArray.mk #[48], 3), (ByteArray.mk #[48, 49], 2)]) := (HO2.out.keep hb3).more hb3.size
  have HB3 : Hid (Below w.heap.size w w3) := HB2.out.trans (hb3.mono HB2.out.size)
  clear ho3 hb3 hc3
  go_wp2_with fail
  refine (meet_any A2 2 c2 [(ByteArray.mk #[48], 3), (ByteArray.mk #[48, 49], 2)] A3 1 c3 [(ByteArray.mk #[48], 1)] w3.heap.size _ (Nat.le_refl _) HO2'.out HO3.out (by omega) (by omega) told_6).mono ?_
  rw [told_4]
  rintro e w4 ⟨A4, c4, rfl, hc4, ho4, hb4⟩
  have hm4 : VecAt w4 w4.heap.size A4 1 [(ByteArray.mk #[48], 1)] := own_vec ho4
  have ha4 : VecAt w4 w4.heap.size A2 2 [(ByteArray.mk #[48], 3), (ByteArray.mk #[48, 49], 2)] := (HO2'.out.keep hb4).more hb4.size
  have HB4 : Hid (Below w.heap.size w w4) := HB3.out.trans (hb4.mono HB3.out.size)
  have HM := Lib.hid hm4
  have HA := Lib.hid ha4
  obtain ⟨bm, om, rfl, hbm, hcm⟩ := hm4.2 (by omega)
  obtain ⟨ba, oa, rfl, hba, hca⟩ := ha4.2 (by omega)
  have k0 : w4.cell? ⟨ba, oa, none⟩ = some (.string (ByteArray.mk #[48])) := by simpa using (hca 0 (by omega)).1
  have k1 : w4.cell? ⟨bm, om + 1, none⟩ = some (.int .i64 1) := by simpa using (hcm 0 (by omega)).2
  clear ho4 hb4 hc4 hm4 ha4 hcm hca
  go_wp2_with fail
  refine (within_any _ 1 c4 [(ByteArray.mk #[48], 1)] _ 2 c2 [(ByteArray.mk #[48], 3), (ByteArray.mk #[48, 49], 2)] w4.heap.size _ (Nat.le_refl _) HM.out HA.out (by omega) (by omega) told_5).mono ?_
  rw [told_7]
  rintro e w5 ⟨rfl, hb5⟩
  have HM5 : Hid (VecAt w5 w5.heap.size _ 1 [(ByteArray.mk #[48], 1)]) := (HM.out.keep hb5).more hb5.size
  have HA5 : Hid (VecAt w5 w5.heap.size _ 2 [(ByteArray.mk #[48], 3), (ByteArray.mk #[48, 49], 2)]) := (HA.out.keep hb5).more hb5.size
  have HB5 : Hid (Below w.heap.size w w5) := HB4.out.trans (hb5.mono HB4.out.size)
  clear hb5 k0 k1
  go_wp2_with fail
  refine (within_any _ 2 c2 [(ByteArray.mk #[48], 3), (ByteArray.mk #[48, 49], 2)] _ 1 c4 [(ByteArray.mk #[48], 1)] w5.heap.size _ (Nat.le_refl _) HA5.out HM5.out (by omega) (by omega) told_6).mono ?_
  rw [told_8]
  rintro e w6 ⟨rfl, hb6⟩
  have HA6 : Hid (VecAt w6 w6.heap.size _ 2 [(ByteArray.mk #[48], 3), (ByteArray.mk #[48, 49], 2)]) := (HA5.out.keep hb6).more hb6.size
  have HB6 : Hid (Below w.heap.size w w6) := HB5.out.trans (hb6.mono HB5.out.size)
  clear hb6
  go_wp2_with fail
  refine (rightv_any _ 2 c2 [(ByteArray.mk #[48], 3), (ByteArray.mk #[48, 49], 2)] w6.heap.size _ (Nat.le_refl _) HA6.out (by omega)).mono ?_
  rw [told_9]
  rintro e w7 ⟨rfl, hb7⟩
  have HA7 : Hid (VecAt w7 w7.heap.size _ 2 [(ByteArray.mk #[48], 3), (ByteArray.mk #[48, 49], 2)]) := (HA6.out.keep hb7).more hb7.size
  have HB7 : Hid (Below w.heap.size w w7) := HB6.out.trans (hb7.mono HB6.out.size)
  clear hb7
  go_wp2_with fail
  refine (of_any _ 2 c2 [(ByteArray.mk #[48], 3), (ByteArray.mk #[48, 49], 2)] (ByteArray.mk #[48, 49]) w7.heap.size _ (Nat.le_refl _) HA7.out (by omega) told_5).mono ?_
  rw [told_10]
  rintro e w8 ⟨rfl, hb8⟩
  have HB8 : Hid (Below w.heap.size w w8) := HB7.out.trans (hb8.mono HB7.out.size)
  clear hb8
  go_wp2
  go_ret
  exact ⟨rfl, HB8.out⟩
end Go.Proofs.Ythjmadlinkcphaa
