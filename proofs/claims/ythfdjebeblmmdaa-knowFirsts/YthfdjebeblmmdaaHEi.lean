/- The law's own little check 'told' of layer 4. -/
import Derived.Test.YthfdjebeblmmdaaHEh
namespace Go.Proofs.Ythfdjebeblmmdaa
open Go.RowKit

def z0 : ByteArray := ByteArray.mk #[48]
def tK1 : Mat := [(z0, (1, []))]
def tK : Mat := [(z0, (1, [3]))]
def tL : Mat := [(z0, (3, []))]
theorem one_1 : oneS 1 = (1, []) := by
  have h : Sp.mergeF [] [1] = [1] := by unfold Sp.mergeF; simp
  unfold oneS Sp.addF Sp.unionF
  simp only [h]
  decide
theorem one_2 : oneS 2 = (0, [2]) := by
  have h : Sp.mergeF [] [2] = [2] := by unfold Sp.mergeF; simp
  unfold oneS Sp.addF Sp.unionF
  simp only [h]
  decide
theorem one_3 : oneS 3 = (0, [3]) := by
  have h : Sp.mergeF [] [3] = [3] := by unfold Sp.mergeF; simp
  unfold oneS Sp.addF Sp.unionF
  simp only [h]
  decide
theorem union_13 : Sp.unionF (1, []) (0, [3]) = (1, [3]) := by
  have h : Sp.mergeF [] [3] = [3] := by unfold Sp.mergeF; simp
  unfold Sp.unionF
  simp only [h]
  decide
theorem union_132 : Sp.unionF (1, [3]) (0, [2]) = (3, []) := by
  have h : Sp.mergeF [3] [2] = [2, 3] := by unfold Sp.mergeF; simp
  unfold Sp.unionF
  simp only [h]
  decide
theorem z0_right : rightL z0.data.toList = true := by decide
theorem kt_1 : addK [] z0 1 = tK1 := by
  unfold addK
  rw [if_pos ⟨z0_right, oneS_ne (by decide) (by decide)⟩, one_1, mergeF]
  rfl
theorem kt_2 : addK tK1 z0 3 = tK := by
  unfold addK tK1
  rw [if_pos ⟨z0_right, oneS_ne (by decide) (by decide)⟩, one_3, mergeF_eq (by exact cmpId_self _), mergeF, union_13]
  rfl
theorem kt_3 : addK tK z0 2 = tL := by
  unfold addK tK
  rw [if_pos ⟨z0_right, oneS_ne (by decide) (by decide)⟩, one_2, mergeF_eq (by exact cmpId_self _), mergeF, union_132]
  rfl
theorem num_1 : Num 1 (1, [3]) := ⟨⟨by decide, by simp, by simp⟩, fun x hx => by rcases hx with h | h <;> simp at h <;> omega, by simp⟩
theorem num_3 : Num 1 (3, []) := ⟨⟨by decide, by simp, by simp⟩, fun x hx => by rcases hx with h | h <;> simp at h <;> omega, by simp⟩
theorem num_0 : Num 1 (1, []) := ⟨⟨by decide, by simp, by simp⟩, fun x hx => by rcases hx with h | h <;> simp at h <;> omega, by simp⟩
theorem gk_K1 : GK 1 tK1 := gk_one z0_right num_0 (by simp)
theorem gk_K : GK 1 tK := gk_one z0_right num_1 (by simp)
theorem gk_L : GK 1 tL := gk_one z0_right num_3 (by simp)
theorem kt_has3 : Sp.hasOf (mOf tK z0).1 (mOf tK z0).2 3 = true := by decide
theorem kt_has2 : Sp.hasOf (mOf tK z0).1 (mOf tK z0).2 2 = false := by decide
theorem kt_win : withinM tK tL = true := by decide
theorem kt_win' : withinM tL tK = false := by decide
theorem kt_firsts : firstsF tL = [(z0, 3)] := by decide
theorem kt_count : countM tK = 2 := by decide
theorem kt_ex : extrasM tK = 1 := by decide
theorem kt_ex0 : extrasM tL = 0 := by decide
set_option maxRecDepth 100000 in
set_option maxHeartbeats 4000000 in
theorem ktold_any (w : World) : Calls Try.prog 9 #[] w fun e w' => e = .returned (.bool true) ∧ Below w.heap.size w w' := by
  go_enter Try.func9, Try.ntmps9
  go_wp2_with fail
  refine (addM_any none 0 0 [] z0 1 w.heap.size w (Nat.le_refl _) (MatAt.nil _ _ _) (Nat.le_refl _) (by omega) (by simp)).mono ?_
  rw [kt_1]
  rintro e w1 ⟨A1, c1, rfl, ho, hb⟩
  have HM1 : Hid (MatAt w1 w1.heap.size A1 1 tK1) := ho.mat
  have hc1 : 1 ≤ c1 := ho.cap
  have HB := Lib.hid hb
  clear ho hb
  go_wp2_with fail
  refine (addM_any A1 1 c1 tK1 z0 3 w1.heap.size w1 (Nat.le_refl _) HM1.out hc1 (by omega) (gk_K1.okS (by omega))).mono ?_
  rw [kt_2]
  rintro e w2 ⟨A2, c2, rfl, ho, hb⟩
  have HK : Hid (MatAt w2 w2.heap.size A2 1 tK) := ho.mat
  have hc2 : 1 ≤ c2 := ho.cap
  replace HB := Lib.hid (HB.out.trans (hb.mono HB.out.size))
  clear ho hb HM1 hc1
  go_wp2_with fail
  refine (addM_any A2 1 c2 tK z0 2 w2.heap.size w2 (Nat.le_refl _) HK.out hc2 (by omega) (gk_K.okS (by omega))).mono ?_
  rw [kt_3]
  rintro e w3 ⟨A3, c3, rfl, ho, hb⟩
  have HL : Hid (MatAt w3 w3.heap.size A3 1 tL) := ho.mat
  replace HK := Lib.hid ((HK.out.keep hb).more hb.size)
  replace HB := Lib.hid (HB.out.trans (hb.mono HB.out.size))
  clear ho hb hc2
  go_wp2_with fail
  refine (extrasM_any A2 1 c2 tK w3.heap.size w3 (Nat.le_refl _) HK.out (by omega) (gk_K.okS (by omega))).mono ?_
  rw [kt_ex]
  rintro e w4 ⟨rfl, hb⟩
  replace HK := Lib.hid ((HK.out.keep hb).more hb.size)
  replace HL := Lib.hid ((HL.out.keep hb).more hb.size)
  replace HB := Lib.hid (HB.out.trans (hb.mono HB.out.size))
  clear hb
  go_wp2_with fail
  refine (countM_any A2 1 c2 tK w4.heap.size w4 (Nat.le_refl _) HK.out (by omega) (gk_K.okS (by omega))).mono ?_
  rw [kt_count]
  rintro e w5 ⟨rfl, hb⟩
  replace HK := Lib.hid ((HK.out.keep hb).more hb.size)
  replace HL := Lib.hid ((HL.out.keep hb).more hb.size)
  replace HB := Lib.hid (HB.out.trans (hb.mono HB.out.size))
  clear hb
  go_wp2_with fail
  refine (hasM_any A2 1 c2 tK z0 3 w5.heap.size w5 (Nat.le_refl _) HK.out (by omega) gk_K.up ((gk_K.of z0).okS (by omega))).mono ?_
  rw [kt_has3]
  rintro e w6 ⟨rfl, hb⟩
  replace HK := Lib.hid ((HK.out.keep hb).more hb.size)
  replace HL := Lib.hid ((HL.out.keep hb).more hb.size)
  replace HB := Lib.hid (HB.out.trans (hb.mono HB.out.size))
  clear hb
  go_wp2_with fail
  refine (hasM_any A2 1 c2 tK z0 2 w6.heap.size w6 (Nat.le_refl _) HK.out (by omega) gk_K.up ((gk_K.of z0).okS (by omega))).mono ?_
  rw [kt_has2]
  rintro e w7 ⟨rfl, hb⟩
  replace HK := Lib.hid ((HK.out.keep hb).more hb.size)
  replace HL := Lib.hid ((HL.out.keep hb).more hb.size)
  replace HB := Lib.hid (HB.out.trans (hb.mono HB.out.size))
  clear hb
  go_wp2_with fail
  refine (extrasM_any A3 1 c3 tL w7.heap.size w7 (Nat.le_refl _) HL.out (by omega) (gk_L.okS (by omega))).mono ?_
  rw [kt_ex0]
  rintro e w8 ⟨rfl, hb⟩
  replace HK := Lib.hid ((HK.out.keep hb).more hb.size)
  replace HL := Lib.hid ((HL.out.keep hb).more hb.size)
  replace HB := Lib.hid (HB.out.trans (hb.mono HB.out.size))
  clear hb
  go_wp2_with fail
  refine (withinM_any A2 1 c2 tK A3 1 c3 tL w8.heap.size w8 (Nat.le_refl _) HK.out HL.out (by omega) (by omega) (gk_K.okS (by omega)) (gk_L.okS (by omega)) gk_L.up).mono ?_
  rw [kt_win]
  rintro e w9 ⟨rfl, hb⟩
  replace HK := Lib.hid ((HK.out.keep hb).more hb.size)
  replace HL := Lib.hid ((HL.out.keep hb).more hb.size)
  replace HB := Lib.hid (HB.out.trans (hb.mono HB.out.size))
  clear hb
  go_wp2_with fail
  refine (withinM_any A3 1 c3 tL A2 1 c2 tK w9.heap.size w9 (Nat.le_refl _) HL.out HK.out (by omega) (by omega) (gk_L.okS (by omega)) (gk_K.okS (by omega)) gk_K.up).mono ?_
  rw [kt_win']
  rintro e w10 ⟨rfl, hb⟩
  replace HK := Lib.hid ((HK.out.keep hb).more hb.size)
  replace HL := Lib.hid ((HL.out.keep hb).more hb.size)
  replace HB := Lib.hid (HB.out.trans (hb.mono HB.out.size))
  clear hb
  go_wp2_with fail
  refine (firstsM_any A3 1 c3 tL w10.heap.size w10 (Nat.le_refl _) HL.out (by omega)).mono ?_
  rw [kt_firsts]
  rintro e w11 ⟨A11, c11, rfl, hcf, ho, hb⟩
  obtain ⟨bs, os, es, hbs, hcs⟩ := (own_vec ho).2 (by decide)
  have k1 : w11.cell? ⟨bs, os + 1, none⟩ = some (.int .i64 3) := by simpa using (hcs 0 (by decide)).2
  subst es
  replace HK := Lib.hid ((HK.out.keep hb).more hb.size)
  replace HL := Lib.hid ((HL.out.keep hb).more hb.size)
  replace HB := Lib.hid (HB.out.trans (hb.mono HB.out.size))
  clear hb ho hcs hcf
  clear k1
  go_wp2_with fail
  refine (firstsM_any A3 1 c3 tL w11.heap.size w11 (Nat.le_refl _) HL.out (by omega)).mono ?_
  rw [kt_firsts]
  rintro e w12 ⟨A12, c12, rfl, hcf, ho, hb⟩
  obtain ⟨bs, os, es, hbs, hcs⟩ := (own_vec ho).2 (by decide)
  have k1 : w12.cell? ⟨bs, os + 1, none⟩ = some (.int .i64 3) := by simpa using (hcs 0 (by decide)).2
  subst es
  replace HK := Lib.hid ((HK.out.keep hb).more hb.size)
  replace HL := Lib.hid ((HL.out.keep hb).more hb.size)
  replace HB := Lib.hid (HB.out.trans (hb.mono HB.out.size))
  clear hb ho hcs hcf
  go_wp2_with fail
  refine (rightM_any A2 1 c2 tK w12.heap.size w12 (Nat.le_refl _) HK.out (by omega) (fun z hz => by have := gk_K.len z hz; omega)).mono ?_
  rw [gk_K.right (by omega)]
  rintro e w13 ⟨rfl, hb⟩
  replace HK := Lib.hid ((HK.out.keep hb).more hb.size)
  replace HL := Lib.hid ((HL.out.keep hb).more hb.size)
  replace HB := Lib.hid (HB.out.trans (hb.mono HB.out.size))
  clear hb
  go_wp2
  go_ret
  exact ⟨rfl, HB.out⟩
end Go.Proofs.Ythfdjebeblmmdaa
