/- The law KnowGroups walked. -/
import Derived.Test.YthfdjebeblmmdaaHEt
namespace Go.Proofs.Ythfdjebeblmmdaa
open Go.RowKit

set_option maxRecDepth 100000 in
set_option maxHeartbeats 16000000 in
theorem knowGroups_walk (A0 : Option Addr) (n0 c0 : Nat) (z0 : Mat) (A1 : Option Addr) (n1 c1 : Nat) (z1 : Mat) (A2 : Option Addr) (n2 c2 : Nat) (z2 : Mat) (w : World) (hz0 : MatAt w w.heap.size A0 n0 z0) (_hc0 : n0 ≤ c0) (hs0 : ShortM z0) (_hn0 : c0 ≤ 9223372036854775807) (hz1 : MatAt w w.heap.size A1 n1 z1) (_hc1 : n1 ≤ c1) (hs1 : ShortM z1) (_hn1 : c1 ≤ 9223372036854775807) (hz2 : MatAt w w.heap.size A2 n2 z2) (_hc2 : n2 ≤ c2) (hs2 : ShortM z2) (_hn2 : c2 ≤ 9223372036854775807) :
    Calls Try.prog 7 #[.slice A0 n0 c0, .slice A1 n1 c1, .slice A2 n2 c2] w fun e w' => e = .returned (.bool true) ∧ Below w.heap.size w w' := by
  have HZ0 := Lib.hid hz0
  have HS0 := Lib.hid hs0
  clear hz0 hs0
  have HZ1 := Lib.hid hz1
  have HS1 := Lib.hid hs1
  clear hz1 hs1
  have HZ2 := Lib.hid hz2
  have HS2 := Lib.hid hs2
  clear hz2 hs2
  go_enter Try.func7, Try.ntmps7
  go_wp2_with fail
  refine (rfixM_any A0 n0 c0 z0 w.heap.size _ (Nat.le_refl _) HZ0.out HS0.out).mono ?_
  rintro e w1 ⟨r, sr, lr, Ar, cr, rfl, ho, hb⟩
  have hcr := ho.cap
  have Sr := Lib.hid sr
  have Gr := Lib.hid sr.gk
  clear sr
  have HM1 : Hid (Ms w1 [(Ar, r)]) := (Ms.nil _).ownM ho hb
  have HB1 : Hid (Below w.heap.size w w1) := hb
  clear hb ho
  go_wp2_with fail
  refine (toM_any Ar (List.length r) cr r w1.heap.size _ (Nat.le_refl _) (HM1.out.get (by simp)) (by omega) (fun z hz => by have := Gr.out.len z hz; omega)).mono ?_
  rintro e w2 ⟨Ax, cx, rfl, ho, hb⟩
  have hcx := ho.cap
  have HM2 : Hid (Ms w2 [(Ax, r), (Ar, r)]) := HM1.out.ownM ho hb
  clear HM1
  have HB2 : Hid (Below w.heap.size w w2) := HB1.out.trans (hb.mono HB1.out.size)
  clear HB1
  clear hb ho
  go_wp2_with fail
  refine (rfixM_any A1 n1 c1 z1 w.heap.size _ HB2.out.size (HZ1.out.keep HB2.out) HS1.out).mono ?_
  rintro e w3 ⟨p, sp, lp, Ap, cp, rfl, ho, hb⟩
  have hcp := ho.cap
  have Sp := Lib.hid sp
  have Gp := Lib.hid sp.gk
  clear sp
  have HM3 : Hid (Ms w3 [(Ap, p), (Ax, r), (Ar, r)]) := HM2.out.ownM ho hb
  clear HM2
  have HB3 : Hid (Below w.heap.size w w3) := HB2.out.trans (hb.mono HB2.out.size)
  clear HB2
  clear hb ho
  go_wp2_with fail
  refine (toM_any Ap (List.length p) cp p w3.heap.size _ (Nat.le_refl _) (HM3.out.get (by simp)) (by omega) (fun z hz => by have := Gp.out.len z hz; omega)).mono ?_
  rintro e w4 ⟨Ay, cy, rfl, ho, hb⟩
  have hcy := ho.cap
  have HM4 : Hid (Ms w4 [(Ay, p), (Ap, p), (Ax, r), (Ar, r)]) := HM3.out.ownM ho hb
  clear HM3
  have HB4 : Hid (Below w.heap.size w w4) := HB3.out.trans (hb.mono HB3.out.size)
  clear HB3
  clear hb ho
  go_wp2_with fail
  refine (rfixM_any A2 n2 c2 z2 w.heap.size _ HB4.out.size (HZ2.out.keep HB4.out) HS2.out).mono ?_
  rintro e w5 ⟨q, sq, lq, Aq, cq, rfl, ho, hb⟩
  have hcq := ho.cap
  have Sq := Lib.hid sq
  have Gq := Lib.hid sq.gk
  clear sq
  have HM5 : Hid (Ms w5 [(Aq, q), (Ay, p), (Ap, p), (Ax, r), (Ar, r)]) := HM4.out.ownM ho hb
  clear HM4
  have HB5 : Hid (Below w.heap.size w w5) := HB4.out.trans (hb.mono HB4.out.size)
  clear HB4
  clear hb ho
  go_wp2_with fail
  refine (toM_any Aq (List.length q) cq q w5.heap.size _ (Nat.le_refl _) (HM5.out.get (by simp)) (by omega) (fun z hz => by have := Gq.out.len z hz; omega)).mono ?_
  rintro e w6 ⟨Az, cz, rfl, ho, hb⟩
  have hcz := ho.cap
  have HM6 : Hid (Ms w6 [(Az, q), (Aq, q), (Ay, p), (Ap, p), (Ax, r), (Ar, r)]) := HM5.out.ownM ho hb
  clear HM5
  have HB6 : Hid (Below w.heap.size w w6) := HB5.out.trans (hb.mono HB5.out.size)
  clear HB5
  clear hb ho
  obtain ⟨u, hu⟩ : ∃ u, mergeF r p = u := ⟨_, rfl⟩
  have HU := Lib.hid hu
  have Gu : Hid (GK 120 u) := hu ▸ Gr.out.merge Gp.out
  have lu : List.length u ≤ 20 := by have := merge_len r p; rw [hu] at this; omega
  obtain ⟨v, hv⟩ : ∃ v, mergeF p q = v := ⟨_, rfl⟩
  have HV := Lib.hid hv
  have Gv : Hid (GK 120 v) := hv ▸ Gp.out.merge Gq.out
  have lv : List.length v ≤ 20 := by have := merge_len p q; rw [hv] at this; omega
  obtain ⟨t, ht⟩ : ∃ t, mergeF u q = t := ⟨_, rfl⟩
  have HT := Lib.hid ht
  have Gt : Hid (GK 180 t) := ht ▸ Gu.out.merge Gq.out
  have lt : List.length t ≤ 30 := by have := merge_len u q; rw [ht] at this; omega
  have HT2 : Hid (mergeF r v = t) := by show _ = _; rw [← hv, ← ht, ← hu]; exact (union_three Gr.out Gp.out Gq.out).symm
  have HRR : Hid (mergeF r r = r) := union_self Gr.out
  obtain ⟨b1, hb1⟩ : ∃ b, withinM r p = b := ⟨_, rfl⟩
  obtain ⟨b2, hb2⟩ : ∃ b, withinM p r = b := ⟨_, rfl⟩
  have HW1 := Lib.hid hb1
  have HW2 := Lib.hid hb2
  have HSS : Hid (sameM r p = (b1 && b2)) := by show _ = _; rw [same_within Gr.out Gp.out, hb1, hb2]
  have hcn := count_union Gr.out Gp.out
  rw [hu] at hcn
  obtain ⟨qu, hcu⟩ : ∃ c, countM u = c := ⟨_, rfl⟩
  obtain ⟨qr, hcr'⟩ : ∃ c, countM r = c := ⟨_, rfl⟩
  obtain ⟨qp, hcp'⟩ : ∃ c, countM p = c := ⟨_, rfl⟩
  have h0r := countM_nonneg Gr.out
  have h0p := countM_nonneg Gp.out
  have hbr := count_bd Gr.out (by omega) lr
  have hbp := count_bd Gp.out (by omega) lp
  rw [hcu, hcr', hcp'] at hcn
  rw [hcr'] at h0r hbr
  rw [hcp'] at h0p hbp
  have HCU := Lib.hid hcu
  have HCR := Lib.hid hcr'
  have HCP := Lib.hid hcp'
  obtain ⟨hn1, hn2, hn3⟩ := hcn
  clear hu hv ht hb1 hb2 hcu hcr' hcp'
  go_wp2_with fail
  refine (ktold_any _).mono ?_
  rintro e w7 ⟨rfl, hb⟩
  have HM7 : Hid (Ms w7 [(Az, q), (Aq, q), (Ay, p), (Ap, p), (Ax, r), (Ar, r)]) := HM6.out.keep hb
  clear HM6
  have HB7 : Hid (Below w.heap.size w w7) := HB6.out.trans (hb.mono HB6.out.size)
  clear HB6
  clear hb
  go_wp2_with fail
  refine (mergeM_any Ax (List.length r) cx r Ay (List.length p) cy p w7.heap.size _ (Nat.le_refl _) (HM7.out.get (by simp)) (HM7.out.get (by simp)) hcx hcy (by omega) (Gr.out.okS (by omega)) (Gp.out.okS (by omega))).mono ?_
  rw [HU.out]
  rintro e w8 ⟨Au, cu, rfl, ho, hb⟩
  have hcu := ho.cap
  have HM8 : Hid (Ms w8 [(Au, u), (Az, q), (Aq, q), (Ay, p), (Ap, p), (Ax, r), (Ar, r)]) := HM7.out.ownM ho hb
  clear HM7
  have HB8 : Hid (Below w.heap.size w w8) := HB7.out.trans (hb.mono HB7.out.size)
  clear HB7
  clear hb ho
  go_wp2_with fail
  refine (mergeM_any Au (List.length u) cu u Az (List.length q) cz q w8.heap.size _ (Nat.le_refl _) (HM8.out.get (by simp)) (HM8.out.get (by simp)) hcu hcz (by omega) (Gu.out.okS (by omega)) (Gq.out.okS (by omega))).mono ?_
  rw [HT.out]
  rintro e w9 ⟨At, ct, rfl, ho, hb⟩
  have hct := ho.cap
  have HM9 : Hid (Ms w9 [(At, t), (Au, u), (Az, q), (Aq, q), (Ay, p), (Ap, p), (Ax, r), (Ar, r)]) := HM8.out.ownM ho hb
  clear HM8
  have HB9 : Hid (Below w.heap.size w w9) := HB8.out.trans (hb.mono HB8.out.size)
  clear HB8
  clear hb ho
  go_wp2_with fail
  refine (mergeM_any Ay (List.length p) cy p Az (List.length q) cz q w9.heap.size _ (Nat.le_refl _) (HM9.out.get (by simp)) (HM9.out.get (by simp)) hcy hcz (by omega) (Gp.out.okS (by omega)) (Gq.out.okS (by omega))).mono ?_
  rw [HV.out]
  rintro e w10 ⟨Av, cv, rfl, ho, hb⟩
  have hcv := ho.cap
  have HM10 : Hid (Ms w10 [(Av, v), (At, t), (Au, u), (Az, q), (Aq, q), (Ay, p), (Ap, p), (Ax, r), (Ar, r)]) := HM9.out.ownM ho hb
  clear HM9
  have HB10 : Hid (Below w.heap.size w w10) := HB9.out.trans (hb.mono HB9.out.size)
  clear HB9
  clear hb ho
  go_wp2_with fail
  refine (mergeM_any Ax (List.length r) cx r Av (List.length v) cv v w10.heap.size _ (Nat.le_refl _) (HM10.out.get (by simp)) (HM10.out.get (by simp)) hcx hcv (by omega) (Gr.out.okS (by omega)) (Gv.out.okS (by omega))).mono ?_
  rw [HT2.out]
  rintro e w11 ⟨At2, ct2, rfl, ho, hb⟩
  have hct2 := ho.cap
  have HM11 : Hid (Ms w11 [(At2, t), (Av, v), (At, t), (Au, u), (Az, q), (Aq, q), (Ay, p), (Ap, p), (Ax, r), (Ar, r)]) := HM10.out.ownM ho hb
  clear HM10
  have HB11 : Hid (Below w.heap.size w w11) := HB10.out.trans (hb.mono HB10.out.size)
  clear HB10
  clear hb ho
  go_wp2_with fail
  refine (sameM_any At (List.length t) ct t At2 (List.length t) ct2 t w11.heap.size _ (Nat.le_refl _) (HM11.out.get (by simp)) (HM11.out.get (by simp)) (by omega) (fun z hz => by have := Gt.out.len z hz; omega)).mono ?_
  rw [sameM_self]
  rintro e w12 ⟨rfl, hb⟩
  have HM12 : Hid (Ms w12 [(At2, t), (Av, v), (At, t), (Au, u), (Az, q), (Aq, q), (Ay, p), (Ap, p), (Ax, r), (Ar, r)]) := HM11.out.keep hb
  clear HM11
  have HB12 : Hid (Below w.heap.size w w12) := HB11.out.trans (hb.mono HB11.out.size)
  clear HB11
  clear hb
  go_wp2_with fail
  refine (mergeM_any Ax (List.length r) cx r Ax (List.length r) cx r w12.heap.size _ (Nat.le_refl _) (HM12.out.get (by simp)) (HM12.out.get (by simp)) hcx hcx (by omega) (Gr.out.okS (by omega)) (Gr.out.okS (by omega))).mono ?_
  rw [HRR.out]
  rintro e w13 ⟨Arr, crr, rfl, ho, hb⟩
  have hcrr := ho.cap
  have HM13 : Hid (Ms w13 [(Arr, r), (At2, t), (Av, v), (At, t), (Au, u), (Az, q), (Aq, q), (Ay, p), (Ap, p), (Ax, r), (Ar, r)]) := HM12.out.ownM ho hb
  clear HM12
  have HB13 : Hid (Below w.heap.size w w13) := HB12.out.trans (hb.mono HB12.out.size)
  clear HB12
  clear hb ho
  go_wp2_with fail
  refine (sameM_any Arr (List.length r) crr r Ax (List.length r) cx r w13.heap.size _ (Nat.le_refl _) (HM13.out.get (by simp)) (HM13.out.get (by simp)) (by omega) (fun z hz => by have := Gr.out.len z hz; omega)).mono ?_
  rw [sameM_self]
  rintro e w14 ⟨rfl, hb⟩
  have HM14 : Hid (Ms w14 [(Arr, r), (At2, t), (Av, v), (At, t), (Au, u), (Az, q), (Aq, q), (Ay, p), (Ap, p), (Ax, r), (Ar, r)]) := HM13.out.keep hb
  clear HM13
  have HB14 : Hid (Below w.heap.size w w14) := HB13.out.trans (hb.mono HB13.out.size)
  clear HB13
  clear hb
  go_wp2_with fail
  refine (sameM_any Ax (List.length r) cx r Ay (List.length p) cy p w14.heap.size _ (Nat.le_refl _) (HM14.out.get (by simp)) (HM14.out.get (by simp)) (by omega) (fun z hz => by have := Gr.out.len z hz; omega)).mono ?_
  rw [HSS.out]
  rintro e w15 ⟨rfl, hb⟩
  have HM15 : Hid (Ms w15 [(Arr, r), (At2, t), (Av, v), (At, t), (Au, u), (Az, q), (Aq, q), (Ay, p), (Ap, p), (Ax, r), (Ar, r)]) := HM14.out.keep hb
  clear HM14
  have HB15 : Hid (Below w.heap.size w w15) := HB14.out.trans (hb.mono HB14.out.size)
  clear HB14
  clear hb
  go_wp2_with fail
  refine (withinM_any Ax (List.length r) cx r Ay (List.length p) cy p w15.heap.size _ (Nat.le_refl _) (HM15.out.get (by simp)) (HM15.out.get (by simp)) (by omega) (by omega) (Gr.out.okS (by omega)) (Gp.out.okS (by omega)) Gp.out.up).mono ?_
  rw [HW1.out]
  rintro e w16 ⟨rfl, hb⟩
  have HM16 : Hid (Ms w16 [(Arr, r), (At2, t), (Av, v), (At, t), (Au, u), (Az, q), (Aq, q), (Ay, p), (Ap, p), (Ax, r), (Ar, r)]) := HM15.out.keep hb
  clear HM15
  have HB16 : Hid (Below w.heap.size w w16) := HB15.out.trans (hb.mono HB15.out.size)
  clear HB15
  clear hb
  have hmx : (if qr < qp then qp else qr) ≤ qu := by split <;> omega
  have hsum : qu ≤ IntKind.i64.wrap (qr + qp) := by rw [IntWalk.i64_in _ (by omega)]; omega
  cases b1 with
  | false =>
    go_wp2_with fail
    refine (mergeM_any Ax (List.length r) cx r Ay (List.length p) cy p w16.heap.size _ (Nat.le_refl _) (HM16.out.get (by simp)) (HM16.out.get (by simp)) hcx hcy (by omega) (Gr.out.okS (by omega)) (Gp.out.okS (by omega))).mono ?_
    rw [HU.out]
    rintro e w17 ⟨Au2, cu2, rfl, ho, hb⟩
    have hcu2 := ho.cap
    have HM17 : Hid (Ms w17 [(Au2, u), (Arr, r), (At2, t), (Av, v), (At, t), (Au, u), (Az, q), (Aq, q), (Ay, p), (Ap, p), (Ax, r), (Ar, r)]) := HM16.out.ownM ho hb
    clear HM16
    have HB17 : Hid (Below w.heap.size w w17) := HB16.out.trans (hb.mono HB16.out.size)
    clear HB16
    clear hb ho
    go_wp2_with fail
    refine (countM_any Au2 (List.length u) cu2 u w17.heap.size _ (Nat.le_refl _) (HM17.out.get (by simp)) (by omega) (Gu.out.okS (by omega))).mono ?_
    rw [HCU.out]
    rintro e w18 ⟨rfl, hb⟩
    have HM18 : Hid (Ms w18 [(Au2, u), (Arr, r), (At2, t), (Av, v), (At, t), (Au, u), (Az, q), (Aq, q), (Ay, p), (Ap, p), (Ax, r), (Ar, r)]) := HM17.out.keep hb
    clear HM17
    have HB18 : Hid (Below w.heap.size w w18) := HB17.out.trans (hb.mono HB17.out.size)
    clear HB17
    clear hb
    go_wp2_with fail
    refine (countM_any Ax (List.length r) cx r w18.heap.size _ (Nat.le_refl _) (HM18.out.get (by simp)) (by omega) (Gr.out.okS (by omega))).mono ?_
    rw [HCR.out]
    rintro e w19 ⟨rfl, hb⟩
    have HM19 : Hid (Ms w19 [(Au2, u), (Arr, r), (At2, t), (Av, v), (At, t), (Au, u), (Az, q), (Aq, q), (Ay, p), (Ap, p), (Ax, r), (Ar, r)]) := HM18.out.keep hb
    clear HM18
    have HB19 : Hid (Below w.heap.size w w19) := HB18.out.trans (hb.mono HB18.out.size)
    clear HB18
    clear hb
    go_wp2_with fail
    refine (countM_any Ay (List.length p) cy p w19.heap.size _ (Nat.le_refl _) (HM19.out.get (by simp)) (by omega) (Gp.out.okS (by omega))).mono ?_
    rw [HCP.out]
    rintro e w20 ⟨rfl, hb⟩
    have HM20 : Hid (Ms w20 [(Au2, u), (Arr, r), (At2, t), (Av, v), (At, t), (Au, u), (Az, q), (Aq, q), (Ay, p), (Ap, p), (Ax, r), (Ar, r)]) := HM19.out.keep hb
    clear HM19
    have HB20 : Hid (Below w.heap.size w w20) := HB19.out.trans (hb.mono HB19.out.size)
    clear HB19
    clear hb
    go_wp2_with fail
    refine (mergeM_any Ax (List.length r) cx r Ay (List.length p) cy p w20.heap.size _ (Nat.le_refl _) (HM20.out.get (by simp)) (HM20.out.get (by simp)) hcx hcy (by omega) (Gr.out.okS (by omega)) (Gp.out.okS (by omega))).mono ?_
    rw [HU.out]
    rintro e w21 ⟨Au3, cu3, rfl, ho, hb⟩
    have hcu3 := ho.cap
    have HM21 : Hid (Ms w21 [(Au3, u), (Au2, u), (Arr, r), (At2, t), (Av, v), (At, t), (Au, u), (Az, q), (Aq, q), (Ay, p), (Ap, p), (Ax, r), (Ar, r)]) := HM20.out.ownM ho hb
    clear HM20
    have HB21 : Hid (Below w.heap.size w w21) := HB20.out.trans (hb.mono HB20.out.size)
    clear HB20
    clear hb ho
    go_wp2_with fail
    refine (countM_any Au3 (List.length u) cu3 u w21.heap.size _ (Nat.le_refl _) (HM21.out.get (by simp)) (by omega) (Gu.out.okS (by omega))).mono ?_
    rw [HCU.out]
    rintro e w22 ⟨rfl, hb⟩
    have HM22 : Hid (Ms w22 [(Au3, u), (Au2, u), (Arr, r), (At2, t), (Av, v), (At, t), (Au, u), (Az, q), (Aq, q), (Ay, p), (Ap, p), (Ax, r), (Ar, r)]) := HM21.out.keep hb
    clear HM21
    have HB22 : Hid (Below w.heap.size w w22) := HB21.out.trans (hb.mono HB21.out.size)
    clear HB21
    clear hb
    go_wp2_with fail
    refine (countM_any Ax (List.length r) cx r w22.heap.size _ (Nat.le_refl _) (HM22.out.get (by simp)) (by omega) (Gr.out.okS (by omega))).mono ?_
    rw [HCR.out]
    rintro e w23 ⟨rfl, hb⟩
    have HM23 : Hid (Ms w23 [(Au3, u), (Au2, u), (Arr, r), (At2, t), (Av, v), (At, t), (Au, u), (Az, q), (Aq, q), (Ay, p), (Ap, p), (Ax, r), (Ar, r)]) := HM22.out.keep hb
    clear HM22
    have HB23 : Hid (Below w.heap.size w w23) := HB22.out.trans (hb.mono HB22.out.size)
    clear HB22
    clear hb
    go_wp2_with fail
    refine (countM_any Ay (List.length p) cy p w23.heap.size _ (Nat.le_refl _) (HM23.out.get (by simp)) (by omega) (Gp.out.okS (by omega))).mono ?_
    rw [HCP.out]
    rintro e w24 ⟨rfl, hb⟩
    have HM24 : Hid (Ms w24 [(Au3, u), (Au2, u), (Arr, r), (At2, t), (Av, v), (At, t), (Au, u), (Az, q), (Aq, q), (Ay, p), (Ap, p), (Ax, r), (Ar, r)]) := HM23.out.keep hb
    clear HM23
    have HB24 : Hid (Below w.heap.size w w24) := HB23.out.trans (hb.mono HB23.out.size)
    clear HB23
    clear hb
    go_wp2
    all_goals (go_ret; exact ⟨rfl, HB24.out⟩)
  | true =>
    go_wp2_with fail
    refine (withinM_any Ay (List.length p) cy p Ax (List.length r) cx r w16.heap.size _ (Nat.le_refl _) (HM16.out.get (by simp)) (HM16.out.get (by simp)) (by omega) (by omega) (Gp.out.okS (by omega)) (Gr.out.okS (by omega)) Gr.out.up).mono ?_
    rw [HW2.out]
    rintro e w17 ⟨rfl, hb⟩
    have HM17 : Hid (Ms w17 [(Arr, r), (At2, t), (Av, v), (At, t), (Au, u), (Az, q), (Aq, q), (Ay, p), (Ap, p), (Ax, r), (Ar, r)]) := HM16.out.keep hb
    clear HM16
    have HB17 : Hid (Below w.heap.size w w17) := HB16.out.trans (hb.mono HB16.out.size)
    clear HB16
    clear hb
    cases b2 with
    | false =>
      go_wp2_with fail
      refine (mergeM_any Ax (List.length r) cx r Ay (List.length p) cy p w17.heap.size _ (Nat.le_refl _) (HM17.out.get (by simp)) (HM17.out.get (by simp)) hcx hcy (by omega) (Gr.out.okS (by omega)) (Gp.out.okS (by omega))).mono ?_
      rw [HU.out]
      rintro e w18 ⟨Au2, cu2, rfl, ho, hb⟩
      have hcu2 := ho.cap
      have HM18 : Hid (Ms w18 [(Au2, u), (Arr, r), (At2, t), (Av, v), (At, t), (Au, u), (Az, q), (Aq, q), (Ay, p), (Ap, p), (Ax, r), (Ar, r)]) := HM17.out.ownM ho hb
      clear HM17
      have HB18 : Hid (Below w.heap.size w w18) := HB17.out.trans (hb.mono HB17.out.size)
      clear HB17
      clear hb ho
      go_wp2_with fail
      refine (countM_any Au2 (List.length u) cu2 u w18.heap.size _ (Nat.le_refl _) (HM18.out.get (by simp)) (by omega) (Gu.out.okS (by omega))).mono ?_
      rw [HCU.out]
      rintro e w19 ⟨rfl, hb⟩
      have HM19 : Hid (Ms w19 [(Au2, u), (Arr, r), (At2, t), (Av, v), (At, t), (Au, u), (Az, q), (Aq, q), (Ay, p), (Ap, p), (Ax, r), (Ar, r)]) := HM18.out.keep hb
      clear HM18
      have HB19 : Hid (Below w.heap.size w w19) := HB18.out.trans (hb.mono HB18.out.size)
      clear HB18
      clear hb
      go_wp2_with fail
      refine (countM_any Ax (List.length r) cx r w19.heap.size _ (Nat.le_refl _) (HM19.out.get (by simp)) (by omega) (Gr.out.okS (by omega))).mono ?_
      rw [HCR.out]
      rintro e w20 ⟨rfl, hb⟩
      have HM20 : Hid (Ms w20 [(Au2, u), (Arr, r), (At2, t), (Av, v), (At, t), (Au, u), (Az, q), (Aq, q), (Ay, p), (Ap, p), (Ax, r), (Ar, r)]) := HM19.out.keep hb
      clear HM19
      have HB20 : Hid (Below w.heap.size w w20) := HB19.out.trans (hb.mono HB19.out.size)
      clear HB19
      clear hb
      go_wp2_with fail
      refine (countM_any Ay (List.length p) cy p w20.heap.size _ (Nat.le_refl _) (HM20.out.get (by simp)) (by omega) (Gp.out.okS (by omega))).mono ?_
      rw [HCP.out]
      rintro e w21 ⟨rfl, hb⟩
      have HM21 : Hid (Ms w21 [(Au2, u), (Arr, r), (At2, t), (Av, v), (At, t), (Au, u), (Az, q), (Aq, q), (Ay, p), (Ap, p), (Ax, r), (Ar, r)]) := HM20.out.keep hb
      clear HM20
      have HB21 : Hid (Below w.heap.size w w21) := HB20.out.trans (hb.mono HB20.out.size)
      clear HB20
      clear hb
      go_wp2_with fail
      refine (mergeM_any Ax (List.length r) cx r Ay (List.length p) cy p w21.heap.size _ (Nat.le_refl _) (HM21.out.get (by simp)) (HM21.out.get (by simp)) hcx hcy (by omega) (Gr.out.okS (by omega)) (Gp.out.okS (by omega))).mono ?_
      rw [HU.out]
      rintro e w22 ⟨Au3, cu3, rfl, ho, hb⟩
      have hcu3 := ho.cap
      have HM22 : Hid (Ms w22 [(Au3, u), (Au2, u), (Arr, r), (At2, t), (Av, v), (At, t), (Au, u), (Az, q), (Aq, q), (Ay, p), (Ap, p), (Ax, r), (Ar, r)]) := HM21.out.ownM ho hb
      clear HM21
      have HB22 : Hid (Below w.heap.size w w22) := HB21.out.trans (hb.mono HB21.out.size)
      clear HB21
      clear hb ho
      go_wp2_with fail
      refine (countM_any Au3 (List.length u) cu3 u w22.heap.size _ (Nat.le_refl _) (HM22.out.get (by simp)) (by omega) (Gu.out.okS (by omega))).mono ?_
      rw [HCU.out]
      rintro e w23 ⟨rfl, hb⟩
      have HM23 : Hid (Ms w23 [(Au3, u), (Au2, u), (Arr, r), (At2, t), (Av, v), (At, t), (Au, u), (Az, q), (Aq, q), (Ay, p), (Ap, p), (Ax, r), (Ar, r)]) := HM22.out.keep hb
      clear HM22
      have HB23 : Hid (Below w.heap.size w w23) := HB22.out.trans (hb.mono HB22.out.size)
      clear HB22
      clear hb
      go_wp2_with fail
      refine (countM_any Ax (List.length r) cx r w23.heap.size _ (Nat.le_refl _) (HM23.out.get (by simp)) (by omega) (Gr.out.okS (by omega))).mono ?_
      rw [HCR.out]
      rintro e w24 ⟨rfl, hb⟩
      have HM24 : Hid (Ms w24 [(Au3, u), (Au2, u), (Arr, r), (At2, t), (Av, v), (At, t), (Au, u), (Az, q), (Aq, q), (Ay, p), (Ap, p), (Ax, r), (Ar, r)]) := HM23.out.keep hb
      clear HM23
      have HB24 : Hid (Below w.heap.size w w24) := HB23.out.trans (hb.mono HB23.out.size)
      clear HB23
      clear hb
      go_wp2_with fail
      refine (countM_any Ay (List.length p) cy p w24.heap.size _ (Nat.le_refl _) (HM24.out.get (by simp)) (by omega) (Gp.out.okS (by omega))).mono ?_
      rw [HCP.out]
      rintro e w25 ⟨rfl, hb⟩
      have HM25 : Hid (Ms w25 [(Au3, u), (Au2, u), (Arr, r), (At2, t), (Av, v), (At, t), (Au, u), (Az, q), (Aq, q), (Ay, p), (Ap, p), (Ax, r), (Ar, r)]) := HM24.out.keep hb
      clear HM24
      have HB25 : Hid (Below w.heap.size w w25) := HB24.out.trans (hb.mono HB24.out.size)
      clear HB24
      clear hb
      go_wp2
      all_goals (go_ret; exact ⟨rfl, HB25.out⟩)
    | true =>
      go_wp2_with fail
      refine (mergeM_any Ax (List.length r) cx r Ay (List.length p) cy p w17.heap.size _ (Nat.le_refl _) (HM17.out.get (by simp)) (HM17.out.get (by simp)) hcx hcy (by omega) (Gr.out.okS (by omega)) (Gp.out.okS (by omega))).mono ?_
      rw [HU.out]
      rintro e w18 ⟨Au2, cu2, rfl, ho, hb⟩
      have hcu2 := ho.cap
      have HM18 : Hid (Ms w18 [(Au2, u), (Arr, r), (At2, t), (Av, v), (At, t), (Au, u), (Az, q), (Aq, q), (Ay, p), (Ap, p), (Ax, r), (Ar, r)]) := HM17.out.ownM ho hb
      clear HM17
      have HB18 : Hid (Below w.heap.size w w18) := HB17.out.trans (hb.mono HB17.out.size)
      clear HB17
      clear hb ho
      go_wp2_with fail
      refine (countM_any Au2 (List.length u) cu2 u w18.heap.size _ (Nat.le_refl _) (HM18.out.get (by simp)) (by omega) (Gu.out.okS (by omega))).mono ?_
      rw [HCU.out]
      rintro e w19 ⟨rfl, hb⟩
      have HM19 : Hid (Ms w19 [(Au2, u), (Arr, r), (At2, t), (Av, v), (At, t), (Au, u), (Az, q), (Aq, q), (Ay, p), (Ap, p), (Ax, r), (Ar, r)]) := HM18.out.keep hb
      clear HM18
      have HB19 : Hid (Below w.heap.size w w19) := HB18.out.trans (hb.mono HB18.out.size)
      clear HB18
      clear hb
      go_wp2_with fail
      refine (countM_any Ax (List.length r) cx r w19.heap.size _ (Nat.le_refl _) (HM19.out.get (by simp)) (by omega) (Gr.out.okS (by omega))).mono ?_
      rw [HCR.out]
      rintro e w20 ⟨rfl, hb⟩
      have HM20 : Hid (Ms w20 [(Au2, u), (Arr, r), (At2, t), (Av, v), (At, t), (Au, u), (Az, q), (Aq, q), (Ay, p), (Ap, p), (Ax, r), (Ar, r)]) := HM19.out.keep hb
      clear HM19
      have HB20 : Hid (Below w.heap.size w w20) := HB19.out.trans (hb.mono HB19.out.size)
      clear HB19
      clear hb
      go_wp2_with fail
      refine (countM_any Ay (List.length p) cy p w20.heap.size _ (Nat.le_refl _) (HM20.out.get (by simp)) (by omega) (Gp.out.okS (by omega))).mono ?_
      rw [HCP.out]
      rintro e w21 ⟨rfl, hb⟩
      have HM21 : Hid (Ms w21 [(Au2, u), (Arr, r), (At2, t), (Av, v), (At, t), (Au, u), (Az, q), (Aq, q), (Ay, p), (Ap, p), (Ax, r), (Ar, r)]) := HM20.out.keep hb
      clear HM20
      have HB21 : Hid (Below w.heap.size w w21) := HB20.out.trans (hb.mono HB20.out.size)
      clear HB20
      clear hb
      go_wp2_with fail
      refine (mergeM_any Ax (List.length r) cx r Ay (List.length p) cy p w21.heap.size _ (Nat.le_refl _) (HM21.out.get (by simp)) (HM21.out.get (by simp)) hcx hcy (by omega) (Gr.out.okS (by omega)) (Gp.out.okS (by omega))).mono ?_
      rw [HU.out]
      rintro e w22 ⟨Au3, cu3, rfl, ho, hb⟩
      have hcu3 := ho.cap
      have HM22 : Hid (Ms w22 [(Au3, u), (Au2, u), (Arr, r), (At2, t), (Av, v), (At, t), (Au, u), (Az, q), (Aq, q), (Ay, p), (Ap, p), (Ax, r), (Ar, r)]) := HM21.out.ownM ho hb
      clear HM21
      have HB22 : Hid (Below w.heap.size w w22) := HB21.out.trans (hb.mono HB21.out.size)
      clear HB21
      clear hb ho
      go_wp2_with fail
      refine (countM_any Au3 (List.length u) cu3 u w22.heap.size _ (Nat.le_refl _) (HM22.out.get (by simp)) (by omega) (Gu.out.okS (by omega))).mono ?_
      rw [HCU.out]
      rintro e w23 ⟨rfl, hb⟩
      have HM23 : Hid (Ms w23 [(Au3, u), (Au2, u), (Arr, r), (At2, t), (Av, v), (At, t), (Au, u), (Az, q), (Aq, q), (Ay, p), (Ap, p), (Ax, r), (Ar, r)]) := HM22.out.keep hb
      clear HM22
      have HB23 : Hid (Below w.heap.size w w23) := HB22.out.trans (hb.mono HB22.out.size)
      clear HB22
      clear hb
      go_wp2_with fail
      refine (countM_any Ax (List.length r) cx r w23.heap.size _ (Nat.le_refl _) (HM23.out.get (by simp)) (by omega) (Gr.out.okS (by omega))).mono ?_
      rw [HCR.out]
      rintro e w24 ⟨rfl, hb⟩
      have HM24 : Hid (Ms w24 [(Au3, u), (Au2, u), (Arr, r), (At2, t), (Av, v), (At, t), (Au, u), (Az, q), (Aq, q), (Ay, p), (Ap, p), (Ax, r), (Ar, r)]) := HM23.out.keep hb
      clear HM23
      have HB24 : Hid (Below w.heap.size w w24) := HB23.out.trans (hb.mono HB23.out.size)
      clear HB23
      clear hb
      go_wp2_with fail
      refine (countM_any Ay (List.length p) cy p w24.heap.size _ (Nat.le_refl _) (HM24.out.get (by simp)) (by omega) (Gp.out.okS (by omega))).mono ?_
      rw [HCP.out]
      rintro e w25 ⟨rfl, hb⟩
      have HM25 : Hid (Ms w25 [(Au3, u), (Au2, u), (Arr, r), (At2, t), (Av, v), (At, t), (Au, u), (Az, q), (Aq, q), (Ay, p), (Ap, p), (Ax, r), (Ar, r)]) := HM24.out.keep hb
      clear HM24
      have HB25 : Hid (Below w.heap.size w w25) := HB24.out.trans (hb.mono HB24.out.size)
      clear HB24
      clear hb
      go_wp2
      all_goals (go_ret; exact ⟨rfl, HB25.out⟩)
end Go.Proofs.Ythfdjebeblmmdaa
