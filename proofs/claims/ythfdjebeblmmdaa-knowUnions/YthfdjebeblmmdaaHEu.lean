/- The law KnowUnions walked. -/
import Derived.Test.YthfdjebeblmmdaaHEs
import Derived.Test.YthfdjebeblmmdaaHEt
namespace Go.Proofs.Ythfdjebeblmmdaa
open Go.RowKit

set_option maxRecDepth 100000 in
set_option maxHeartbeats 16000000 in
theorem knowUnions_walk (A0 : Option Addr) (n0 c0 : Nat) (z0 : Mat) (A1 : Option Addr) (n1 c1 : Nat) (z1 : Mat) (A2 : Option Addr) (n2 c2 : Nat) (z2 : Mat) (w : World) (hz0 : MatAt w w.heap.size A0 n0 z0) (_hc0 : n0 ≤ c0) (hs0 : ShortM z0) (_hn0 : c0 ≤ 9223372036854775807) (hz1 : MatAt w w.heap.size A1 n1 z1) (_hc1 : n1 ≤ c1) (hs1 : ShortM z1) (_hn1 : c1 ≤ 9223372036854775807) (hz2 : MatAt w w.heap.size A2 n2 z2) (_hc2 : n2 ≤ c2) (hs2 : ShortM z2) (_hn2 : c2 ≤ 9223372036854775807) :
    Calls Try.prog 5 #[.slice A0 n0 c0, .slice A1 n1 c1, .slice A2 n2 c2] w fun e w' => e = .returned (.bool true) ∧ Below w.heap.size w w' := by
  have HZ0 := Lib.hid hz0
  have HS0 := Lib.hid hs0
  clear hz0 hs0
  have HZ1 := Lib.hid hz1
  have HS1 := Lib.hid hs1
  clear hz1 hs1
  have HZ2 := Lib.hid hz2
  have HS2 := Lib.hid hs2
  clear hz2 hs2
  go_enter Try.func5, Try.ntmps5
  go_wp2_with fail
  refine (rfixM_any A0 n0 c0 z0 w.heap.size _ (Nat.le_refl _) HZ0.out HS0.out).mono ?_
  rintro e w1 ⟨r, sr, lr, Ar, cr, rfl, ho, hb⟩
  have hcr := ho.cap
  have Sr := Lib.hid sr
  have Gr := Lib.hid sr.gk
  clear sr
  have HM1 : Hid (Ms w1 [(Ar, r)]) := (Ms.nil _).ownM ho hb
  have HB1 : Hid (Below w.heap.size w w1) := hb
  clear hb ho
  go_wp2_with fail
  refine (rfixM_any A1 n1 c1 z1 w.heap.size _ HB1.out.size (HZ1.out.keep HB1.out) HS1.out).mono ?_
  rintro e w2 ⟨p, sp0, lp, Ap, cp, rfl, ho, hb⟩
  have hcp := ho.cap
  have Sp0 := Lib.hid sp0
  have Gp := Lib.hid sp0.gk
  clear sp0
  have HM2 : Hid (Ms w2 [(Ap, p), (Ar, r)]) := HM1.out.ownM ho hb
  clear HM1
  have HB2 : Hid (Below w.heap.size w w2) := HB1.out.trans (hb.mono HB1.out.size)
  clear HB1
  clear hb ho
  go_wp2_with fail
  refine (rfixM_any A2 n2 c2 z2 w.heap.size _ HB2.out.size (HZ2.out.keep HB2.out) HS2.out).mono ?_
  rintro e w3 ⟨q, sq, lq, Aq, cq, rfl, ho, hb⟩
  have hcq := ho.cap
  have Sq := Lib.hid sq
  have Gq := Lib.hid sq.gk
  clear sq
  have HM3 : Hid (Ms w3 [(Aq, q), (Ap, p), (Ar, r)]) := HM2.out.ownM ho hb
  clear HM2
  have HB3 : Hid (Below w.heap.size w w3) := HB2.out.trans (hb.mono HB2.out.size)
  clear HB2
  clear hb ho
  go_wp2_with fail
  refine (toM_any Ar (List.length r) cr r w3.heap.size _ (Nat.le_refl _) (HM3.out.get (by simp)) (by omega) (fun z hz => by have := Gr.out.len z hz; omega)).mono ?_
  rintro e w4 ⟨Ax, cx, rfl, ho, hb⟩
  have hcx := ho.cap
  have HM4 : Hid (Ms w4 [(Ax, r), (Aq, q), (Ap, p), (Ar, r)]) := HM3.out.ownM ho hb
  clear HM3
  have HB4 : Hid (Below w.heap.size w w4) := HB3.out.trans (hb.mono HB3.out.size)
  clear HB3
  clear hb ho
  go_wp2_with fail
  refine (toM_any Ap (List.length p) cp p w4.heap.size _ (Nat.le_refl _) (HM4.out.get (by simp)) (by omega) (fun z hz => by have := Gp.out.len z hz; omega)).mono ?_
  rintro e w5 ⟨Ay, cy, rfl, ho, hb⟩
  have hcy := ho.cap
  have HM5 : Hid (Ms w5 [(Ay, p), (Ax, r), (Aq, q), (Ap, p), (Ar, r)]) := HM4.out.ownM ho hb
  clear HM4
  have HB5 : Hid (Below w.heap.size w w5) := HB4.out.trans (hb.mono HB4.out.size)
  clear HB4
  clear hb ho
  go_wp2_with fail
  refine (toM_any Aq (List.length q) cq q w5.heap.size _ (Nat.le_refl _) (HM5.out.get (by simp)) (by omega) (fun z hz => by have := Gq.out.len z hz; omega)).mono ?_
  rintro e w6 ⟨Az, cz, rfl, ho, hb⟩
  have hcz := ho.cap
  have HM6 : Hid (Ms w6 [(Az, q), (Ay, p), (Ax, r), (Aq, q), (Ap, p), (Ar, r)]) := HM5.out.ownM ho hb
  clear HM5
  have HB6 : Hid (Below w.heap.size w w6) := HB5.out.trans (hb.mono HB5.out.size)
  clear HB5
  clear hb ho
  obtain ⟨u, hu⟩ : ∃ u, mergeF r p = u := ⟨_, rfl⟩
  have HU := Lib.hid hu
  have Gu : Hid (GK 120 u) := hu ▸ Gr.out.merge Gp.out
  have HU2 : Hid (mergeF p r = u) := (union_swap Gp.out Gr.out).trans hu
  have lu : List.length u ≤ 20 := by have := merge_len r p; rw [hu] at this; omega
  have HWL : Hid (withinM r u = true) := hu ▸ within_left Gr.out Gp.out
  have HWR : Hid (withinM p u = true) := hu ▸ within_right Gr.out Gp.out
  obtain ⟨b1, hb1⟩ : ∃ b, withinM r q = b := ⟨_, rfl⟩
  obtain ⟨b2, hb2⟩ : ∃ b, withinM p q = b := ⟨_, rfl⟩
  have HW1 := Lib.hid hb1
  have HW2 := Lib.hid hb2
  have HWU : Hid (withinM u q = (b1 && b2)) := by show _ = _; rw [← hu, within_union Gr.out Gp.out Gq.out, hb1, hb2]
  obtain ⟨b3, hb3⟩ : ∃ b, withinM r p = b := ⟨_, rfl⟩
  have HW3 := Lib.hid hb3
  obtain ⟨b4, hb4⟩ : ∃ b, sameM r p = b := ⟨_, rfl⟩
  have HW4 := Lib.hid hb4
  clear hu hb1 hb2 hb3 hb4
  go_wp2_with fail
  refine (mergeM_any Ax (List.length r) cx r Ay (List.length p) cy p w6.heap.size _ (Nat.le_refl _) (HM6.out.get (by simp)) (HM6.out.get (by simp)) hcx hcy (by omega) (Gr.out.okS (by omega)) (Gp.out.okS (by omega))).mono ?_
  rw [HU.out]
  rintro e w7 ⟨Au, cu, rfl, ho, hb⟩
  have hcu := ho.cap
  have HM7 : Hid (Ms w7 [(Au, u), (Az, q), (Ay, p), (Ax, r), (Aq, q), (Ap, p), (Ar, r)]) := HM6.out.ownM ho hb
  clear HM6
  have HB7 : Hid (Below w.heap.size w w7) := HB6.out.trans (hb.mono HB6.out.size)
  clear HB6
  clear hb ho
  go_wp2_with fail
  refine (ktold_any _).mono ?_
  rintro e w8 ⟨rfl, hb⟩
  have HM8 : Hid (Ms w8 [(Au, u), (Az, q), (Ay, p), (Ax, r), (Aq, q), (Ap, p), (Ar, r)]) := HM7.out.keep hb
  clear HM7
  have HB8 : Hid (Below w.heap.size w w8) := HB7.out.trans (hb.mono HB7.out.size)
  clear HB7
  clear hb
  go_wp2_with fail
  refine (fromM_any Au (List.length u) cu u w8.heap.size _ (Nat.le_refl _) (HM8.out.get (by simp)) (by omega) (fun z hz => by have := Gu.out.len z hz; omega)).mono ?_
  rintro e w9 ⟨Afu, cfu, rfl, ho, hb⟩
  have hcfu := ho.cap
  have HM9 : Hid (Ms w9 [(Afu, u), (Au, u), (Az, q), (Ay, p), (Ax, r), (Aq, q), (Ap, p), (Ar, r)]) := HM8.out.ownM ho hb
  clear HM8
  have HB9 : Hid (Below w.heap.size w w9) := HB8.out.trans (hb.mono HB8.out.size)
  clear HB8
  clear hb ho
  go_wp2_with fail
  refine (runionM_any Ar (List.length r) cr r Ap (List.length p) cp p w9.heap.size _ (Nat.le_refl _) (HM9.out.get (by simp)) (HM9.out.get (by simp)) (by omega) (by omega) Sr.out Sp0.out).mono ?_
  rw [HU.out]
  rintro e w10 ⟨Aru, cru, rfl, ho, hb⟩
  have hcru := ho.cap
  have HM10 : Hid (Ms w10 [(Aru, u), (Afu, u), (Au, u), (Az, q), (Ay, p), (Ax, r), (Aq, q), (Ap, p), (Ar, r)]) := HM9.out.ownM ho hb
  clear HM9
  have HB10 : Hid (Below w.heap.size w w10) := HB9.out.trans (hb.mono HB9.out.size)
  clear HB9
  clear hb ho
  go_wp2_with fail
  refine (rsameM_any Afu (List.length u) cfu u Aru (List.length u) cru u w10.heap.size _ (Nat.le_refl _) (HM10.out.get (by simp)) (HM10.out.get (by simp)) (by omega) (fun z hz => by have := Gu.out.len z hz; omega)).mono ?_
  rw [sameM_self]
  rintro e w11 ⟨rfl, hb⟩
  have HM11 : Hid (Ms w11 [(Aru, u), (Afu, u), (Au, u), (Az, q), (Ay, p), (Ax, r), (Aq, q), (Ap, p), (Ar, r)]) := HM10.out.keep hb
  clear HM10
  have HB11 : Hid (Below w.heap.size w w11) := HB10.out.trans (hb.mono HB10.out.size)
  clear HB10
  clear hb
  go_wp2_with fail
  refine (withinM_any Ax (List.length r) cx r Ay (List.length p) cy p w11.heap.size _ (Nat.le_refl _) (HM11.out.get (by simp)) (HM11.out.get (by simp)) (by omega) (by omega) (Gr.out.okS (by omega)) (Gp.out.okS (by omega)) Gp.out.up).mono ?_
  rw [HW3.out]
  rintro e w12 ⟨rfl, hb⟩
  have HM12 : Hid (Ms w12 [(Aru, u), (Afu, u), (Au, u), (Az, q), (Ay, p), (Ax, r), (Aq, q), (Ap, p), (Ar, r)]) := HM11.out.keep hb
  clear HM11
  have HB12 : Hid (Below w.heap.size w w12) := HB11.out.trans (hb.mono HB11.out.size)
  clear HB11
  clear hb
  go_wp2_with fail
  refine (rwithinM_any Ar (List.length r) cr r Ap (List.length p) cp p w12.heap.size _ (Nat.le_refl _) (HM12.out.get (by simp)) (HM12.out.get (by simp)) (by omega) (by omega) Sr.out Sp0.out).mono ?_
  rw [HW3.out]
  rintro e w13 ⟨rfl, hb⟩
  have HM13 : Hid (Ms w13 [(Aru, u), (Afu, u), (Au, u), (Az, q), (Ay, p), (Ax, r), (Aq, q), (Ap, p), (Ar, r)]) := HM12.out.keep hb
  clear HM12
  have HB13 : Hid (Below w.heap.size w w13) := HB12.out.trans (hb.mono HB12.out.size)
  clear HB12
  clear hb
  go_wp2_with fail
  refine (sameM_any Ax (List.length r) cx r Ay (List.length p) cy p w13.heap.size _ (Nat.le_refl _) (HM13.out.get (by simp)) (HM13.out.get (by simp)) (by omega) (fun z hz => by have := Gr.out.len z hz; omega)).mono ?_
  rw [HW4.out]
  rintro e w14 ⟨rfl, hb⟩
  have HM14 : Hid (Ms w14 [(Aru, u), (Afu, u), (Au, u), (Az, q), (Ay, p), (Ax, r), (Aq, q), (Ap, p), (Ar, r)]) := HM13.out.keep hb
  clear HM13
  have HB14 : Hid (Below w.heap.size w w14) := HB13.out.trans (hb.mono HB13.out.size)
  clear HB13
  clear hb
  go_wp2_with fail
  refine (rsameM_any Ar (List.length r) cr r Ap (List.length p) cp p w14.heap.size _ (Nat.le_refl _) (HM14.out.get (by simp)) (HM14.out.get (by simp)) (by omega) (fun z hz => by have := Gr.out.len z hz; omega)).mono ?_
  rw [HW4.out]
  rintro e w15 ⟨rfl, hb⟩
  have HM15 : Hid (Ms w15 [(Aru, u), (Afu, u), (Au, u), (Az, q), (Ay, p), (Ax, r), (Aq, q), (Ap, p), (Ar, r)]) := HM14.out.keep hb
  clear HM14
  have HB15 : Hid (Below w.heap.size w w15) := HB14.out.trans (hb.mono HB14.out.size)
  clear HB14
  clear hb
  go_wp2_with fail
  refine (rightM_any Au (List.length u) cu u w15.heap.size _ (Nat.le_refl _) (HM15.out.get (by simp)) (by omega) (fun z hz => by have := Gu.out.len z hz; omega)).mono ?_
  rw [Gu.out.right (by omega)]
  rintro e w16 ⟨rfl, hb⟩
  have HM16 : Hid (Ms w16 [(Aru, u), (Afu, u), (Au, u), (Az, q), (Ay, p), (Ax, r), (Aq, q), (Ap, p), (Ar, r)]) := HM15.out.keep hb
  clear HM15
  have HB16 : Hid (Below w.heap.size w w16) := HB15.out.trans (hb.mono HB15.out.size)
  clear HB15
  clear hb
  go_wp2_with fail
  refine (withinM_any Ax (List.length r) cx r Au (List.length u) cu u w16.heap.size _ (Nat.le_refl _) (HM16.out.get (by simp)) (HM16.out.get (by simp)) (by omega) (by omega) (Gr.out.okS (by omega)) (Gu.out.okS (by omega)) Gu.out.up).mono ?_
  rw [HWL.out]
  rintro e w17 ⟨rfl, hb⟩
  have HM17 : Hid (Ms w17 [(Aru, u), (Afu, u), (Au, u), (Az, q), (Ay, p), (Ax, r), (Aq, q), (Ap, p), (Ar, r)]) := HM16.out.keep hb
  clear HM16
  have HB17 : Hid (Below w.heap.size w w17) := HB16.out.trans (hb.mono HB16.out.size)
  clear HB16
  clear hb
  go_wp2_with fail
  refine (withinM_any Ay (List.length p) cy p Au (List.length u) cu u w17.heap.size _ (Nat.le_refl _) (HM17.out.get (by simp)) (HM17.out.get (by simp)) (by omega) (by omega) (Gp.out.okS (by omega)) (Gu.out.okS (by omega)) Gu.out.up).mono ?_
  rw [HWR.out]
  rintro e w18 ⟨rfl, hb⟩
  have HM18 : Hid (Ms w18 [(Aru, u), (Afu, u), (Au, u), (Az, q), (Ay, p), (Ax, r), (Aq, q), (Ap, p), (Ar, r)]) := HM17.out.keep hb
  clear HM17
  have HB18 : Hid (Below w.heap.size w w18) := HB17.out.trans (hb.mono HB17.out.size)
  clear HB17
  clear hb
  go_wp2_with fail
  refine (mergeM_any Ay (List.length p) cy p Ax (List.length r) cx r w18.heap.size _ (Nat.le_refl _) (HM18.out.get (by simp)) (HM18.out.get (by simp)) hcy hcx (by omega) (Gp.out.okS (by omega)) (Gr.out.okS (by omega))).mono ?_
  rw [HU2.out]
  rintro e w19 ⟨Av, cv, rfl, ho, hb⟩
  have hcv := ho.cap
  have HM19 : Hid (Ms w19 [(Av, u), (Aru, u), (Afu, u), (Au, u), (Az, q), (Ay, p), (Ax, r), (Aq, q), (Ap, p), (Ar, r)]) := HM18.out.ownM ho hb
  clear HM18
  have HB19 : Hid (Below w.heap.size w w19) := HB18.out.trans (hb.mono HB18.out.size)
  clear HB18
  clear hb ho
  go_wp2_with fail
  refine (sameM_any Au (List.length u) cu u Av (List.length u) cv u w19.heap.size _ (Nat.le_refl _) (HM19.out.get (by simp)) (HM19.out.get (by simp)) (by omega) (fun z hz => by have := Gu.out.len z hz; omega)).mono ?_
  rw [sameM_self]
  rintro e w20 ⟨rfl, hb⟩
  have HM20 : Hid (Ms w20 [(Av, u), (Aru, u), (Afu, u), (Au, u), (Az, q), (Ay, p), (Ax, r), (Aq, q), (Ap, p), (Ar, r)]) := HM19.out.keep hb
  clear HM19
  have HB20 : Hid (Below w.heap.size w w20) := HB19.out.trans (hb.mono HB19.out.size)
  clear HB19
  clear hb
  go_wp2_with fail
  refine (withinM_any Au (List.length u) cu u Az (List.length q) cz q w20.heap.size _ (Nat.le_refl _) (HM20.out.get (by simp)) (HM20.out.get (by simp)) (by omega) (by omega) (Gu.out.okS (by omega)) (Gq.out.okS (by omega)) Gq.out.up).mono ?_
  rw [HWU.out]
  rintro e w21 ⟨rfl, hb⟩
  have HM21 : Hid (Ms w21 [(Av, u), (Aru, u), (Afu, u), (Au, u), (Az, q), (Ay, p), (Ax, r), (Aq, q), (Ap, p), (Ar, r)]) := HM20.out.keep hb
  clear HM20
  have HB21 : Hid (Below w.heap.size w w21) := HB20.out.trans (hb.mono HB20.out.size)
  clear HB20
  clear hb
  go_wp2_with fail
  refine (withinM_any Ax (List.length r) cx r Az (List.length q) cz q w21.heap.size _ (Nat.le_refl _) (HM21.out.get (by simp)) (HM21.out.get (by simp)) (by omega) (by omega) (Gr.out.okS (by omega)) (Gq.out.okS (by omega)) Gq.out.up).mono ?_
  rw [HW1.out]
  rintro e w22 ⟨rfl, hb⟩
  have HM22 : Hid (Ms w22 [(Av, u), (Aru, u), (Afu, u), (Au, u), (Az, q), (Ay, p), (Ax, r), (Aq, q), (Ap, p), (Ar, r)]) := HM21.out.keep hb
  clear HM21
  have HB22 : Hid (Below w.heap.size w w22) := HB21.out.trans (hb.mono HB21.out.size)
  clear HB21
  clear hb
  cases b1 with
  | false =>
    go_wp2
    go_ret
    exact ⟨rfl, HB22.out⟩
  | true =>
    go_wp2_with fail
    refine (withinM_any Ay (List.length p) cy p Az (List.length q) cz q w22.heap.size _ (Nat.le_refl _) (HM22.out.get (by simp)) (HM22.out.get (by simp)) (by omega) (by omega) (Gp.out.okS (by omega)) (Gq.out.okS (by omega)) Gq.out.up).mono ?_
    rw [HW2.out]
    rintro e w23 ⟨rfl, hb⟩
    have HM23 : Hid (Ms w23 [(Av, u), (Aru, u), (Afu, u), (Au, u), (Az, q), (Ay, p), (Ax, r), (Aq, q), (Ap, p), (Ar, r)]) := HM22.out.keep hb
    clear HM22
    have HB23 : Hid (Below w.heap.size w w23) := HB22.out.trans (hb.mono HB22.out.size)
    clear HB22
    clear hb
    cases b2 with
    | false =>
      go_wp2
      go_ret
      exact ⟨rfl, HB23.out⟩
    | true =>
      go_wp2
      go_ret
      exact ⟨rfl, HB23.out⟩
end Go.Proofs.Ythfdjebeblmmdaa
