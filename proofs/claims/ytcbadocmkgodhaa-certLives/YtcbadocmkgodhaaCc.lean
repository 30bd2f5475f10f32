/- The law's own little check 'told' of layer 9. -/
import Derived.Test.YtcbadocmkgodhaaCb
namespace Go.Proofs.Ytcbadocmkgodhaa
open Go.RowKit

def s0 : ByteArray := ByteArray.mk #[48]
def s01 : ByteArray := ByteArray.mk #[48, 49]
def s02 : ByteArray := ByteArray.mk #[48, 50]
theorem ctold_1 : setF [] (ByteArray.mk #[48, 49]) (oneMore 0) = [(ByteArray.mk #[48, 49], 1)] := by
  unfold setF
  rw [if_pos (by decide)]
  simp only [joinF]
  rfl
theorem ctold_2 : setF [(ByteArray.mk #[48, 49], 1)] (ByteArray.mk #[48, 49]) (oneMore 5) = [(ByteArray.mk #[48, 49], 6)] := by
  unfold setF
  rw [if_pos (by decide), joinF_eq (by decide)]
  simp only [joinF]
  rfl
theorem ctold_3 : liveF [ByteArray.mk #[48], ByteArray.mk #[48, 49], ByteArray.mk #[48, 50]] [(ByteArray.mk #[48, 49], 1)] = [ByteArray.mk #[48], ByteArray.mk #[48, 50]] := by decide
theorem ctold_4 : unionF [ByteArray.mk #[48], ByteArray.mk #[48, 50]] = [ByteArray.mk #[48], ByteArray.mk #[48, 50]] := unionF_self (by unfold RisingT; decide)
theorem ctold_5 : goneF [(ByteArray.mk #[48, 49], 1)] (ByteArray.mk #[48, 49]) = true := by decide
theorem ctold_6 : goneF [(ByteArray.mk #[48, 49], 1)] (ByteArray.mk #[48]) = false := by decide
theorem ctold_7 : lastF [(ByteArray.mk #[48, 49], 1)] (ByteArray.mk #[48, 49]) = 0 := by decide
theorem ctold_8 : lastF [(ByteArray.mk #[48, 49], 6)] (ByteArray.mk #[48, 49]) = 5 := by decide
theorem ctold_9 : Rising [(ByteArray.mk #[48, 49], 1)] := by unfold Rising; decide
theorem ctold_10 : Rising [(ByteArray.mk #[48, 49], 6)] := by unfold Rising; decide

set_option maxRecDepth 100000 in
set_option maxHeartbeats 4000000 in
theorem ctold_any (w : World) : Calls Try.prog 10 #[] w fun e w' => e = .returned (.bool true) ∧ Below w.heap.size w w' := by
  go_enter Try.func10, Try.ntmps10
  go_wp2_with fail
  refine (cput_any none 0 0 [] (ByteArray.mk #[48, 49]) 0 0 _ (by omega) (VecAt.nil _ _ _) (by omega) (by omega)).mono ?_
  rw [ctold_1]
  rintro e w1 ⟨A1, c1, rfl, hc1, ho1, hb1⟩
  have HO1 : Hid (VecAt w1 w1.heap.size A1 1 [(ByteArray.mk #[48, 49], 1)]) := own_vec ho1
  have HB1 := Lib.hid hb1
  have hd1 : 1 ≤ c1 := hc1
  clear ho1 hb1 hc1
  have HB2 : Hid (Below w1.heap.size w1 (w1.alloc (.cells #[.string (ByteArray.mk #[48]), .string (ByteArray.mk #[48, 49]), .string (ByteArray.mk #[48, 50])] 28))) := (Below.refl _ _).alloc (Nat.le_refl _) _
  have HR : Hid (RowAt cellsT 1 (w1.alloc (.cells #[.string (ByteArray.mk #[48]), .string (ByteArray.mk #[48, 49]), .string (ByteArray.mk #[48, 50])] 28)) (w1.heap.size + 1) (some ⟨w1.heap.size, 0, none⟩) 3 [ByteArray.mk #[48], ByteArray.mk #[48, 49], ByteArray.mk #[48, 50]]) := by
    refine ⟨rfl, fun _ => ⟨_, _, rfl, by omega, fun k hk j u hu => ?_⟩⟩
    have h1 := heap_alloc_new w1 (.cells #[.string (ByteArray.mk #[48]), .string (ByteArray.mk #[48, 49]), .string (ByteArray.mk #[48, 50])] 28)
    have hj : j = 0 := by
      have := (List.getElem?_eq_some_iff.mp hu).1
      simp [cellsT] at this
      exact this
    subst hj
    have hk3 : k = 0 ∨ k = 1 ∨ k = 2 := by simp at hk; omega
    rcases hk3 with rfl | rfl | rfl
    · have := cell_of_row _ w1.heap.size 0 _ _ _ h1; simp [cellsT] at hu this ⊢; rw [← hu]
    · have := cell_of_row _ w1.heap.size 1 _ _ _ h1; simp [cellsT] at hu this ⊢; rw [← hu]
    · have := cell_of_row _ w1.heap.size 2 _ _ _ h1; simp [cellsT] at hu this ⊢; rw [← hu]
  have HL := Lib.hid (live_any _ 3 3 _ A1 1 c1 [(ByteArray.mk #[48, 49], 1)] (w1.heap.size + 1) _ (by simp) HR.out ((HO1.out.keep HB2.out).more (by omega)) (by omega) (by omega) ctold_9)
  rw [ctold_3, ctold_4] at HL
  go_wp2_with fail
  refine HL.out.mono ?_
  rintro e w2 ⟨A2, c2, rfl, ho2, hb2⟩
  have HB3 : Hid (Below w1.heap.size w1 w2) := HB2.out.trans (hb2.mono HB2.out.size)
  have HO2 : Hid (VecAt w2 w2.heap.size A1 1 [(ByteArray.mk #[48, 49], 1)]) := (HO1.out.keep HB3.out).more HB3.out.size
  obtain ⟨bm, om, sm, rfl, hbm, hsm, hcm⟩ := (own_row rowT ho2).text (Below.refl _ _) (k := 1) (by decide)
  have HBw : Hid (Below w.heap.size w w2) := HB1.out.trans (HB3.out.mono HB1.out.size)
  have HRo : Hid (RowAt cellsT 1 w2 w2.heap.size (some ⟨bm, om, none⟩) 2 [ByteArray.mk #[48], ByteArray.mk #[48, 50]]) := own_row rowT ho2
  simp at hsm
  subst hsm
  clear ho2 hb2 HL HR HB2 HB3 HO1 hcm
  have hk0 : (1 : Int) < 2 := by omega
  go_wp2_with fail
  refine (gone_any A1 1 c1 [(ByteArray.mk #[48, 49], 1)] (ByteArray.mk #[48, 49]) w2.heap.size _ (Nat.le_refl _) HO2.out (by omega) ctold_9).mono ?_
  rw [ctold_5]
  rintro e w3 ⟨rfl, hb⟩
  have HO3 := Lib.hid ((HO2.out.keep hb).more hb.size)
  have HR3 := Lib.hid ((HRo.out.keep hb).more hb.size)
  have HB4 : Hid (Below w.heap.size w w3) := HBw.out.trans (hb.mono HBw.out.size)
  clear hb HO2 HRo
  go_wp2_with fail
  refine (last_any A1 1 c1 [(ByteArray.mk #[48, 49], 1)] (ByteArray.mk #[48, 49]) w3.heap.size _ (Nat.le_refl _) HO3.out (by omega) ctold_9 (by decide)).mono ?_
  rw [ctold_7]
  rintro e w4 ⟨rfl, hb⟩
  have HO4 := Lib.hid ((HO3.out.keep hb).more hb.size)
  have HR4 := Lib.hid ((HR3.out.keep hb).more hb.size)
  have HB5 : Hid (Below w.heap.size w w4) := HB4.out.trans (hb.mono HB4.out.size)
  clear hb HO3 HR3
  go_wp2_with fail
  refine (gone_any A1 1 c1 [(ByteArray.mk #[48, 49], 1)] (ByteArray.mk #[48]) w4.heap.size _ (Nat.le_refl _) HO4.out (by omega) ctold_9).mono ?_
  rw [ctold_6]
  rintro e w5 ⟨rfl, hb⟩
  have HO5 := Lib.hid ((HO4.out.keep hb).more hb.size)
  have hR5 := (HR4.out.keep hb).more hb.size
  have HB6 : Hid (Below w.heap.size w w5) := HB5.out.trans (hb.mono HB5.out.size)
  obtain ⟨b', o', sm, e, hbm5, hsm, hcm⟩ := hR5.text (Below.refl _ _) (k := 1) (by decide)
  injection e with e
  injection e with e1 e2
  subst e1 e2
  simp at hsm
  subst hsm
  clear hb HO4 HR4 hR5
  go_wp2_with fail
  refine (cput_any A1 1 c1 [(ByteArray.mk #[48, 49], 1)] (ByteArray.mk #[48, 49]) 5 w5.heap.size _ (Nat.le_refl _) HO5.out hd1 (by omega)).mono ?_
  rw [ctold_2]
  rintro e w6 ⟨A6, c6, rfl, hc6, ho6, hb6⟩
  have HO6 : Hid (VecAt w6 w6.heap.size A6 1 [(ByteArray.mk #[48, 49], 6)]) := own_vec ho6
  have HB7 : Hid (Below w.heap.size w w6) := HB6.out.trans (hb6.mono HB6.out.size)
  clear ho6 hb6 hc6 HO5 hcm
  go_wp2_with fail
  refine (last_any A6 1 c6 [(ByteArray.mk #[48, 49], 6)] (ByteArray.mk #[48, 49]) w6.heap.size _ (Nat.le_refl _) HO6.out (by omega) ctold_10 (by decide)).mono ?_
  rw [ctold_8]
  rintro e w7 ⟨rfl, hb⟩
  have HB8 : Hid (Below w.heap.size w w7) := HB7.out.trans (hb.mono HB7.out.size)
  clear hb
  go_wp2
  go_ret
  exact ⟨rfl, HB8.out⟩
end Go.Proofs.Ytcbadocmkgodhaa
