/- The law KnowAdds walked. -/
import Derived.Test.YthfdjebeblmmdaaHEq
namespace Go.Proofs.Ythfdjebeblmmdaa
open Go.RowKit

set_option maxRecDepth 100000 in
set_option maxHeartbeats 16000000 in
theorem knowAdds_walk (A0 : Option Addr) (n0 c0 : Nat) (z0 : Mat) (s1 : ByteArray) (n2 : Int) (w : World) (hz0 : MatAt w w.heap.size A0 n0 z0) (_hc0 : n0 ≤ c0) (hs0 : ShortM z0) (_hn0 : c0 ≤ 9223372036854775807) (_hs1 : s1.size ≤ 9223372036854775807)  :
    Calls Try.prog 4 #[.slice A0 n0 c0, .string s1, .int .i64 n2] w fun e w' => e = .returned (.bool true) ∧ Below w.heap.size w w' := by
  have HZ0 := Lib.hid hz0
  have HS0 := Lib.hid hs0
  clear hz0 hs0
  go_enter Try.func4, Try.ntmps4
  go_wp2_with fail
  refine (rfixM_any A0 n0 c0 z0 w.heap.size _ (Nat.le_refl _) HZ0.out HS0.out).mono ?_
  rintro e w1 ⟨r, sr, lr, Ar, cr, rfl, ho, hb⟩
  have hcr := ho.cap
  have Sr := Lib.hid sr
  have Gr := Lib.hid sr.gk
  clear sr
  have HM1 : Hid (Ms w1 [(Ar, r)]) := (Ms.nil _).ownM ho hb
  have HB1 : Hid (Below w.heap.size w w1) := hb
  clear hb ho
  go_wp2_with fail
  refine (toM_any Ar (List.length r) cr r w1.heap.size _ (Nat.le_refl _) (HM1.out.get (by simp)) (by omega) (fun z hz => by have := Gr.out.len z hz; omega)).mono ?_
  rintro e w2 ⟨Ax, cx, rfl, ho, hb⟩
  have hcx := ho.cap
  have HM2 : Hid (Ms w2 [(Ax, r), (Ar, r)]) := HM1.out.ownM ho hb
  clear HM1
  have HB2 : Hid (Below w.heap.size w w2) := HB1.out.trans (hb.mono HB1.out.size)
  clear HB1
  clear hb ho
  obtain ⟨y, hy⟩ : ∃ y, addK r s1 n2 = y := ⟨_, rfl⟩
  have HY := Lib.hid hy
  have Gy : Hid (GK 61 y) := hy ▸ Gr.out.add s1 n2
  have ly : List.length y ≤ 11 := by have := addK_len r s1 n2; rw [hy] at this; omega
  obtain ⟨d, hd⟩ : ∃ d, dropM r s1 = d := ⟨_, rfl⟩
  have HD := Lib.hid hd
  have Gd : Hid (GK 60 d) := hd ▸ Gr.out.drop s1
  have ld : List.length d ≤ 10 := by have := dropM_len r s1; rw [hd] at this; omega
  obtain ⟨t, ht⟩ : ∃ t, mOf r s1 = t := ⟨_, rfl⟩
  have HT := Lib.hid ht
  have Nt : Hid (Num 60 t) := ht ▸ Gr.out.of s1
  have OT : Hid (OkS (mOf r s1)) := (Gr.out.of s1).okS (by omega)
  have htl : t.2.length ≤ 60 := Nt.out.len
  clear hy hd ht
  go_wp2_with fail
  refine (addM_any Ax (List.length r) cx r s1 n2 w2.heap.size _ (Nat.le_refl _) (HM2.out.get (by simp)) hcx (by omega) (Gr.out.okS (by omega))).mono ?_
  rw [HY.out]
  rintro e w3 ⟨Ay, cy, rfl, ho, hb⟩
  have hcy := ho.cap
  have HM3 : Hid (Ms w3 [(Ay, y), (Ax, r), (Ar, r)]) := HM2.out.ownM ho hb
  clear HM2
  have HB3 : Hid (Below w.heap.size w w3) := HB2.out.trans (hb.mono HB2.out.size)
  clear HB2
  clear hb ho
  go_wp2_with fail
  refine (dropM_any Ax (List.length r) cx r s1 w3.heap.size _ (Nat.le_refl _) (HM3.out.get (by simp)) (by omega) (Gr.out.okS (by omega))).mono ?_
  rw [HD.out]
  rintro e w4 ⟨Ad, cd, rfl, ho, hb⟩
  have hcd := ho.cap
  have HM4 : Hid (Ms w4 [(Ad, d), (Ay, y), (Ax, r), (Ar, r)]) := HM3.out.ownM ho hb
  clear HM3
  have HB4 : Hid (Below w.heap.size w w4) := HB3.out.trans (hb.mono HB3.out.size)
  clear HB3
  clear hb ho
  go_wp2_with fail
  refine (ktold_any _).mono ?_
  rintro e w5 ⟨rfl, hb⟩
  have HM5 : Hid (Ms w5 [(Ad, d), (Ay, y), (Ax, r), (Ar, r)]) := HM4.out.keep hb
  clear HM4
  have HB5 : Hid (Below w.heap.size w w5) := HB4.out.trans (hb.mono HB4.out.size)
  clear HB4
  clear hb
  go_wp2_with fail
  refine (fromM_any Ay (List.length y) cy y w5.heap.size _ (Nat.le_refl _) (HM5.out.get (by simp)) (by omega) (fun z hz => by have := Gy.out.len z hz; omega)).mono ?_
  rintro e w6 ⟨Afy, cfy, rfl, ho, hb⟩
  have hcfy := ho.cap
  have HM6 : Hid (Ms w6 [(Afy, y), (Ad, d), (Ay, y), (Ax, r), (Ar, r)]) := HM5.out.ownM ho hb
  clear HM5
  have HB6 : Hid (Below w.heap.size w w6) := HB5.out.trans (hb.mono HB5.out.size)
  clear HB5
  clear hb ho
  go_wp2_with fail
  refine (raddM_any Ar (List.length r) cr r s1 n2 w6.heap.size _ (Nat.le_refl _) (HM6.out.get (by simp)) (by omega) Sr.out).mono ?_
  rw [HY.out]
  rintro e w7 ⟨Ary, cry, rfl, ho, hb⟩
  have hcry := ho.cap
  have HM7 : Hid (Ms w7 [(Ary, y), (Afy, y), (Ad, d), (Ay, y), (Ax, r), (Ar, r)]) := HM6.out.ownM ho hb
  clear HM6
  have HB7 : Hid (Below w.heap.size w w7) := HB6.out.trans (hb.mono HB6.out.size)
  clear HB6
  clear hb ho
  go_wp2_with fail
  refine (rsameM_any Afy (List.length y) cfy y Ary (List.length y) cry y w7.heap.size _ (Nat.le_refl _) (HM7.out.get (by simp)) (HM7.out.get (by simp)) (by omega) (fun z hz => by have := Gy.out.len z hz; omega)).mono ?_
  rw [sameM_self]
  rintro e w8 ⟨rfl, hb⟩
  have HM8 : Hid (Ms w8 [(Ary, y), (Afy, y), (Ad, d), (Ay, y), (Ax, r), (Ar, r)]) := HM7.out.keep hb
  clear HM7
  have HB8 : Hid (Below w.heap.size w w8) := HB7.out.trans (hb.mono HB7.out.size)
  clear HB7
  clear hb
  go_wp2_with fail
  refine (fromM_any Ad (List.length d) cd d w8.heap.size _ (Nat.le_refl _) (HM8.out.get (by simp)) (by omega) (fun z hz => by have := Gd.out.len z hz; omega)).mono ?_
  rintro e w9 ⟨Afd, cfd, rfl, ho, hb⟩
  have hcfd := ho.cap
  have HM9 : Hid (Ms w9 [(Afd, d), (Ary, y), (Afy, y), (Ad, d), (Ay, y), (Ax, r), (Ar, r)]) := HM8.out.ownM ho hb
  clear HM8
  have HB9 : Hid (Below w.heap.size w w9) := HB8.out.trans (hb.mono HB8.out.size)
  clear HB8
  clear hb ho
  go_wp2_with fail
  refine (rdropM_any Ar (List.length r) cr r s1 w9.heap.size _ (Nat.le_refl _) (HM9.out.get (by simp)) (by omega)).mono ?_
  rw [HD.out]
  rintro e w10 ⟨Ard, crd, rfl, ho, hb⟩
  have hcrd := ho.cap
  have HM10 : Hid (Ms w10 [(Ard, d), (Afd, d), (Ary, y), (Afy, y), (Ad, d), (Ay, y), (Ax, r), (Ar, r)]) := HM9.out.ownM ho hb
  clear HM9
  have HB10 : Hid (Below w.heap.size w w10) := HB9.out.trans (hb.mono HB9.out.size)
  clear HB9
  clear hb ho
  go_wp2_with fail
  refine (rsameM_any Afd (List.length d) cfd d Ard (List.length d) crd d w10.heap.size _ (Nat.le_refl _) (HM10.out.get (by simp)) (HM10.out.get (by simp)) (by omega) (fun z hz => by have := Gd.out.len z hz; omega)).mono ?_
  rw [sameM_self]
  rintro e w11 ⟨rfl, hb⟩
  have HM11 : Hid (Ms w11 [(Ard, d), (Afd, d), (Ary, y), (Afy, y), (Ad, d), (Ay, y), (Ax, r), (Ar, r)]) := HM10.out.keep hb
  clear HM10
  have HB11 : Hid (Below w.heap.size w w11) := HB10.out.trans (hb.mono HB10.out.size)
  clear HB10
  clear hb
  go_wp2_with fail
  refine (ofM_any Ax (List.length r) cx r s1 w11.heap.size _ (Nat.le_refl _) (HM11.out.get (by simp)) (by omega) Gr.out.up OT.out).mono ?_
  rw [HT.out]
  rintro e w12 ⟨Ao, co, rfl, hco, ho, hb⟩
  have HO1 := Lib.hid (Sp.own_ints ho)
  clear ho
  have HM12 : Hid (Ms w12 [(Ard, d), (Afd, d), (Ary, y), (Afy, y), (Ad, d), (Ay, y), (Ax, r), (Ar, r)]) := HM11.out.keep hb
  clear HM11
  have HB12 : Hid (Below w.heap.size w w12) := HB11.out.trans (hb.mono HB11.out.size)
  clear HB11
  clear hb
  go_wp2_with fail
  refine (fromS_any t.1 Ao t.2.length co t.2 w12.heap.size _ (Nat.le_refl _) HO1.out (by omega)).mono ?_
  rintro e w13 ⟨Ap, cp, rfl, hcp, ho, hb⟩
  have HO2 := Lib.hid (Sp.own_ints ho)
  clear ho HO1
  have HM13 : Hid (Ms w13 [(Ard, d), (Afd, d), (Ary, y), (Afy, y), (Ad, d), (Ay, y), (Ax, r), (Ar, r)]) := HM12.out.keep hb
  clear HM12
  have HB13 : Hid (Below w.heap.size w w13) := HB12.out.trans (hb.mono HB12.out.size)
  clear HB12
  clear hb
  go_wp2_with fail
  refine (rofM_any Ar (List.length r) cr r s1 w13.heap.size _ (Nat.le_refl _) (HM13.out.get (by simp)) (by omega)).mono ?_
  rw [HT.out]
  rintro e w14 ⟨Aq, cq, rfl, hcq, ho, hb⟩
  have HO3 := Lib.hid (ho.more hb.size)
  clear ho
  have HM14 : Hid (Ms w14 [(Ard, d), (Afd, d), (Ary, y), (Afy, y), (Ad, d), (Ay, y), (Ax, r), (Ar, r)]) := HM13.out.keep hb
  clear HM13
  replace HO2 := Lib.hid ((HO2.out.keep hb).more hb.size)
  have HB14 : Hid (Below w.heap.size w w14) := HB13.out.trans (hb.mono HB13.out.size)
  clear HB13
  clear hb
  go_wp2_with fail
  refine (Sp.refSame_any t.1 Ap t.2.length cp t.2 t.1 Aq t.2.length cq t.2 w14.heap.size _ (Nat.le_refl _) HO2.out HO3.out (by omega)).mono ?_
  rw [Sp.same_true rfl]
  rintro e w15 ⟨rfl, hb⟩
  have HM15 : Hid (Ms w15 [(Ard, d), (Afd, d), (Ary, y), (Afy, y), (Ad, d), (Ay, y), (Ax, r), (Ar, r)]) := HM14.out.keep hb
  clear HM14
  have HB15 : Hid (Below w.heap.size w w15) := HB14.out.trans (hb.mono HB14.out.size)
  clear HB14
  clear hb
  clear HO2 HO3
  obtain ⟨hb0, hh0⟩ : ∃ b, Sp.refHasF t n2 = b := ⟨_, rfl⟩
  have HH := Lib.hid hh0
  have HH2 : Hid (Sp.hasOf t.1 t.2 n2 = hb0) := (has_ref Nt.out.ok n2).trans hh0
  clear hh0
  go_wp2_with fail
  refine (hasM_any Ax (List.length r) cx r s1 n2 w15.heap.size _ (Nat.le_refl _) (HM15.out.get (by simp)) (by omega) Gr.out.up OT.out).mono ?_
  rw [HT.out, HH2.out]
  rintro e w16 ⟨rfl, hb⟩
  have HM16 : Hid (Ms w16 [(Ard, d), (Afd, d), (Ary, y), (Afy, y), (Ad, d), (Ay, y), (Ax, r), (Ar, r)]) := HM15.out.keep hb
  clear HM15
  have HB16 : Hid (Below w.heap.size w w16) := HB15.out.trans (hb.mono HB15.out.size)
  clear HB15
  clear hb
  go_wp2_with fail
  refine (rhasM_any Ar (List.length r) cr r s1 n2 w16.heap.size _ (Nat.le_refl _) (HM16.out.get (by simp)) (by omega) (by rw [HT.out]; omega)).mono ?_
  rw [HT.out, HH.out]
  rintro e w17 ⟨rfl, hb⟩
  have HM17 : Hid (Ms w17 [(Ard, d), (Afd, d), (Ary, y), (Afy, y), (Ad, d), (Ay, y), (Ax, r), (Ar, r)]) := HM16.out.keep hb
  clear HM16
  have HB17 : Hid (Below w.heap.size w w17) := HB16.out.trans (hb.mono HB16.out.size)
  clear HB16
  clear hb
  go_wp2_with fail
  refine (rightM_any Ay (List.length y) cy y w17.heap.size _ (Nat.le_refl _) (HM17.out.get (by simp)) (by omega) (fun z hz => by have := Gy.out.len z hz; omega)).mono ?_
  rw [Gy.out.right (by omega)]
  rintro e w18 ⟨rfl, hb⟩
  have HM18 : Hid (Ms w18 [(Ard, d), (Afd, d), (Ary, y), (Afy, y), (Ad, d), (Ay, y), (Ax, r), (Ar, r)]) := HM17.out.keep hb
  clear HM17
  have HB18 : Hid (Below w.heap.size w w18) := HB17.out.trans (hb.mono HB17.out.size)
  clear HB17
  clear hb
  go_wp2_with fail
  refine (rightM_any Ad (List.length d) cd d w18.heap.size _ (Nat.le_refl _) (HM18.out.get (by simp)) (by omega) (fun z hz => by have := Gd.out.len z hz; omega)).mono ?_
  rw [Gd.out.right (by omega)]
  rintro e w19 ⟨rfl, hb⟩
  have HM19 : Hid (Ms w19 [(Ard, d), (Afd, d), (Ary, y), (Afy, y), (Ad, d), (Ay, y), (Ax, r), (Ar, r)]) := HM18.out.keep hb
  clear HM18
  have HB19 : Hid (Below w.heap.size w w19) := HB18.out.trans (hb.mono HB18.out.size)
  clear HB18
  clear hb
  go_wp2_with fail
  refine (countM_any Ax (List.length r) cx r w19.heap.size _ (Nat.le_refl _) (HM19.out.get (by simp)) (by omega) (Gr.out.okS (by omega))).mono ?_
  rintro e w20 ⟨rfl, hb⟩
  have HM20 : Hid (Ms w20 [(Ard, d), (Afd, d), (Ary, y), (Afy, y), (Ad, d), (Ay, y), (Ax, r), (Ar, r)]) := HM19.out.keep hb
  clear HM19
  have HB20 : Hid (Below w.heap.size w w20) := HB19.out.trans (hb.mono HB19.out.size)
  clear HB19
  clear hb
  go_wp2_with fail
  refine (rcountM_any Ar (List.length r) cr r w20.heap.size _ (Nat.le_refl _) (HM20.out.get (by simp)) (by omega) (Gr.out.okS (by omega))).mono ?_
  rintro e w21 ⟨rfl, hb⟩
  have HM21 : Hid (Ms w21 [(Ard, d), (Afd, d), (Ary, y), (Afy, y), (Ad, d), (Ay, y), (Ax, r), (Ar, r)]) := HM20.out.keep hb
  clear HM20
  have HB21 : Hid (Below w.heap.size w w21) := HB20.out.trans (hb.mono HB20.out.size)
  clear HB20
  clear hb
  go_wp2_with fail
  refine (extrasM_any Ax (List.length r) cx r w21.heap.size _ (Nat.le_refl _) (HM21.out.get (by simp)) (by omega) (Gr.out.okS (by omega))).mono ?_
  rintro e w22 ⟨rfl, hb⟩
  have HM22 : Hid (Ms w22 [(Ard, d), (Afd, d), (Ary, y), (Afy, y), (Ad, d), (Ay, y), (Ax, r), (Ar, r)]) := HM21.out.keep hb
  clear HM21
  have HB22 : Hid (Below w.heap.size w w22) := HB21.out.trans (hb.mono HB21.out.size)
  clear HB21
  clear hb
  go_wp2_with fail
  refine (rextrasM_any Ar (List.length r) cr r w22.heap.size _ (Nat.le_refl _) (HM22.out.get (by simp)) (by omega) (Gr.out.okS (by omega))).mono ?_
  rintro e w23 ⟨rfl, hb⟩
  have HM23 : Hid (Ms w23 [(Ard, d), (Afd, d), (Ary, y), (Afy, y), (Ad, d), (Ay, y), (Ax, r), (Ar, r)]) := HM22.out.keep hb
  clear HM22
  have HB23 : Hid (Below w.heap.size w w23) := HB22.out.trans (hb.mono HB22.out.size)
  clear HB22
  clear hb
  go_wp2_with fail
  refine (fromM_any Ax (List.length r) cx r w23.heap.size _ (Nat.le_refl _) (HM23.out.get (by simp)) (by omega) (fun z hz => by have := Gr.out.len z hz; omega)).mono ?_
  rintro e w24 ⟨Afx, cfx, rfl, ho, hb⟩
  have hcfx := ho.cap
  have HM24 : Hid (Ms w24 [(Afx, r), (Ard, d), (Afd, d), (Ary, y), (Afy, y), (Ad, d), (Ay, y), (Ax, r), (Ar, r)]) := HM23.out.ownM ho hb
  clear HM23
  have HB24 : Hid (Below w.heap.size w w24) := HB23.out.trans (hb.mono HB23.out.size)
  clear HB23
  clear hb ho
  go_wp2_with fail
  refine (rsameM_any Afx (List.length r) cfx r Ar (List.length r) cr r w24.heap.size _ (Nat.le_refl _) (HM24.out.get (by simp)) (HM24.out.get (by simp)) (by omega) (fun z hz => by have := Gr.out.len z hz; omega)).mono ?_
  rw [sameM_self]
  rintro e w25 ⟨rfl, hb⟩
  have HM25 : Hid (Ms w25 [(Afx, r), (Ard, d), (Afd, d), (Ary, y), (Afy, y), (Ad, d), (Ay, y), (Ax, r), (Ar, r)]) := HM24.out.keep hb
  clear HM24
  have HB25 : Hid (Below w.heap.size w w25) := HB24.out.trans (hb.mono HB24.out.size)
  clear HB24
  clear hb
  go_wp2
  go_ret
  exact ⟨rfl, HB25.out⟩
end Go.Proofs.Ythfdjebeblmmdaa
