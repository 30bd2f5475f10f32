/- The law VecSets walked. -/
import Derived.Test.YthjmadlinkcphaaVr
namespace Go.Proofs.Ythjmadlinkcphaa
open Go.RowKit

set_option maxRecDepth 100000 in
set_option maxHeartbeats 16000000 in
theorem vecSets_walk (A0 : Option Addr) (n0 c0 : Nat) (z0 : List At) (a : ByteArray) (x : Int) (w : World) (hz : VecAt w w.heap.size A0 n0 z0) (_hc : n0 ≤ c0) (_hs : Short z0) (_hn : n0 ≤ 9223372036854775807) (_ha : a.size ≤ 9223372036854775807) :
    Calls Try.prog 4 #[.slice A0 n0 c0, .string a, .int .i64 x] w fun e w' => e = .returned (.bool true) ∧ Below w.heap.size w w' := by
  have HZ0 := Lib.hid hz
  clear hz _hc _hs _hn _ha
  go_enter Try.func4, Try.ntmps4
  go_wp2_with fail
  refine (fixv_any A0 n0 c0 z0 w.heap.size _ (Nat.le_refl _) HZ0.out).mono ?_
  rintro e w1 ⟨v, gv, lv, Bv, dv, rfl, hdv, ho, hb⟩
  have Gv := Lib.hid gv
  clear gv
  have HV1 : Hid (Vs w1 [(Bv, v)]) := Vs.own (Vs.nil _) ho hb
  have HB1 : Hid (Below w.heap.size w w1) := hb
  clear ho hb
  obtain ⟨s, hs⟩ : ∃ s, setF v a x = s := ⟨_, rfl⟩
  obtain ⟨d, hd⟩ : ∃ d, dropF v a = d := ⟨_, rfl⟩
  obtain ⟨o, ho⟩ : ∃ o, ofF v a = o := ⟨_, rfl⟩
  have ls : s.length ≤ 13 := by rw [← hs]; have := set_len v a x; omega
  have ld : d.length ≤ 12 := by rw [← hd]; have := dropF_len v a; omega
  have Gs : Hid (Good s) := by show Good s; rw [← hs]; exact Gv.out.set a x
  have Gd : Hid (Good d) := by show Good d; rw [← hd]; exact Gv.out.drop a
  have HS := Lib.hid hs
  have HD := Lib.hid hd
  have HO := Lib.hid ho
  clear hs hd ho
  have RS := good_right Gs.out
  have RD := good_right Gd.out
  go_wp2_with fail
  refine (to_any Bv v.length dv v w1.heap.size _ (Nat.le_refl _) (HV1.out.get (by simp)) (by omega)).mono ?_
  rintro e w2 ⟨Ax, cx, rfl, hcx, ho, hb⟩
  have HV2 : Hid (Vs w2 [(Ax, v), (Bv, v)]) := HV1.out.own ho hb
  have HB2 : Hid (Below w.heap.size w w2) := HB1.out.trans (hb.mono HB1.out.size)
  clear ho hb HV1
  go_wp2_with fail
  refine (set_any Ax v.length cx v a x w2.heap.size _ (Nat.le_refl _) (HV2.out.get (by simp)) hcx (by omega)).mono ?_
  rw [HS.out]
  rintro e w3 ⟨As, cs, rfl, hcs, ho, hb⟩
  have HV3 : Hid (Vs w3 [(As, s), (Ax, v), (Bv, v)]) := HV2.out.own ho hb
  have HB3 : Hid (Below w.heap.size w w3) := HB2.out.trans (hb.mono HB2.out.size)
  clear ho hb HV2
  go_wp2_with fail
  refine (drop_any Ax v.length cx v a w3.heap.size _ (Nat.le_refl _) (HV3.out.get (by simp)) (by omega)).mono ?_
  rw [HD.out]
  rintro e w4 ⟨Ad, cd, rfl, hcd, ho, hb⟩
  have HV4 : Hid (Vs w4 [(Ad, d), (As, s), (Ax, v), (Bv, v)]) := HV3.out.own ho hb
  have HB4 : Hid (Below w.heap.size w w4) := HB3.out.trans (hb.mono HB3.out.size)
  clear ho hb HV3
  go_wp2_with fail
  refine (told_any _).mono ?_
  rintro e w5 ⟨rfl, hb⟩
  have HV5 : Hid (Vs w5 [(Ad, d), (As, s), (Ax, v), (Bv, v)]) := HV4.out.keep hb
  have HB5 : Hid (Below w.heap.size w w5) := HB4.out.trans (hb.mono HB4.out.size)
  clear hb HV4
  go_wp2_with fail
  refine (of_any Ax v.length cx v a w5.heap.size _ (Nat.le_refl _) (HV5.out.get (by simp)) (by omega) Gv.out.1).mono ?_
  rw [HO.out]
  rintro e w6 ⟨rfl, hb⟩
  have HV6 : Hid (Vs w6 [(Ad, d), (As, s), (Ax, v), (Bv, v)]) := HV5.out.keep hb
  have HB6 : Hid (Below w.heap.size w w6) := HB5.out.trans (hb.mono HB5.out.size)
  clear hb HV5
  go_wp2_with fail
  refine (rof_any Bv v.length dv v a w6.heap.size _ (HV6.out.get (by simp)) (by omega)).mono ?_
  rw [HO.out]
  rintro e w' ⟨rfl, rfl⟩
  go_wp2_with fail
  refine (from_any As s.length cs s w6.heap.size _ (Nat.le_refl _) (HV6.out.get (by simp)) (by omega)).mono ?_
  rintro e w7 ⟨Af, cf, rfl, hcf, ho, hb⟩
  have HV7 : Hid (Vs w7 [(Af, s), (Ad, d), (As, s), (Ax, v), (Bv, v)]) := HV6.out.own ho hb
  have HB7 : Hid (Below w.heap.size w w7) := HB6.out.trans (hb.mono HB6.out.size)
  clear ho hb HV6
  go_wp2_with fail
  refine (rset_any Bv v.length dv v a x w7.heap.size _ (Nat.le_refl _) (HV7.out.get (by simp)) (by omega) Gv.out).mono ?_
  rw [HS.out]
  rintro e w8 ⟨Ar, cr, rfl, hcr, ho, hb⟩
  have HV8 : Hid (Vs w8 [(Ar, s), (Af, s), (Ad, d), (As, s), (Ax, v), (Bv, v)]) := HV7.out.own ho hb
  have HB8 : Hid (Below w.heap.size w w8) := HB7.out.trans (hb.mono HB7.out.size)
  clear ho hb HV7
  go_wp2_with fail
  refine (rsame_any Af s.length cf s Ar s.length cr s w8.heap.size _ (HV8.out.get (by simp)) (HV8.out.get (by simp)) (by omega) (by omega)).mono ?_
  rw [same_self]
  rintro e w9 ⟨rfl, hd⟩
  have hb := drawn_below hd.out w8.heap.size
  clear hd
  have HV9 : Hid (Vs w9 [(Ar, s), (Af, s), (Ad, d), (As, s), (Ax, v), (Bv, v)]) := HV8.out.keep hb
  have HB9 : Hid (Below w.heap.size w w9) := HB8.out.trans (hb.mono HB8.out.size)
  clear hb HV8
  go_wp2_with fail
  refine (from_any Ad d.length cd d w9.heap.size _ (Nat.le_refl _) (HV9.out.get (by simp)) (by omega)).mono ?_
  rintro e w10 ⟨Ap, cp, rfl, hcp, ho, hb⟩
  have HV10 : Hid (Vs w10 [(Ap, d), (Ar, s), (Af, s), (Ad, d), (As, s), (Ax, v), (Bv, v)]) := HV9.out.own ho hb
  have HB10 : Hid (Below w.heap.size w w10) := HB9.out.trans (hb.mono HB9.out.size)
  clear ho hb HV9
  go_wp2_with fail
  refine (rdrop_any Bv v.length dv v a w10.heap.size _ (Nat.le_refl _) (HV10.out.get (by simp)) (by omega)).mono ?_
  rw [HD.out]
  rintro e w11 ⟨Aq, cq, rfl, hcq, ho, hb⟩
  have HV11 : Hid (Vs w11 [(Aq, d), (Ap, d), (Ar, s), (Af, s), (Ad, d), (As, s), (Ax, v), (Bv, v)]) := HV10.out.own ho hb
  have HB11 : Hid (Below w.heap.size w w11) := HB10.out.trans (hb.mono HB10.out.size)
  clear ho hb HV10
  go_wp2_with fail
  refine (rsame_any Ap d.length cp d Aq d.length cq d w11.heap.size _ (HV11.out.get (by simp)) (HV11.out.get (by simp)) (by omega) (by omega)).mono ?_
  rw [same_self]
  rintro e w12 ⟨rfl, hd⟩
  have hb := drawn_below hd.out w11.heap.size
  clear hd
  have HV12 : Hid (Vs w12 [(Aq, d), (Ap, d), (Ar, s), (Af, s), (Ad, d), (As, s), (Ax, v), (Bv, v)]) := HV11.out.keep hb
  have HB12 : Hid (Below w.heap.size w w12) := HB11.out.trans (hb.mono HB11.out.size)
  clear hb HV11
  go_wp2_with fail
  refine (rightv_any As s.length cs s w12.heap.size _ (Nat.le_refl _) (HV12.out.get (by simp)) (by omega)).mono ?_
  rw [RS.out]
  rintro e w13 ⟨rfl, hb⟩
  have HV13 : Hid (Vs w13 [(Aq, d), (Ap, d), (Ar, s), (Af, s), (Ad, d), (As, s), (Ax, v), (Bv, v)]) := HV12.out.keep hb
  have HB13 : Hid (Below w.heap.size w w13) := HB12.out.trans (hb.mono HB12.out.size)
  clear hb HV12
  go_wp2_with fail
  refine (rightv_any Ad d.length cd d w13.heap.size _ (Nat.le_refl _) (HV13.out.get (by simp)) (by omega)).mono ?_
  rw [RD.out]
  rintro e w14 ⟨rfl, hb⟩
  have HV14 : Hid (Vs w14 [(Aq, d), (Ap, d), (Ar, s), (Af, s), (Ad, d), (As, s), (Ax, v), (Bv, v)]) := HV13.out.keep hb
  have HB14 : Hid (Below w.heap.size w w14) := HB13.out.trans (hb.mono HB13.out.size)
  clear hb HV13
  go_wp2_with fail
  refine (from_any Ax v.length cx v w14.heap.size _ (Nat.le_refl _) (HV14.out.get (by simp)) (by omega)).mono ?_
  rintro e w15 ⟨Au, cu, rfl, hcu, ho, hb⟩
  have HV15 : Hid (Vs w15 [(Au, v), (Aq, d), (Ap, d), (Ar, s), (Af, s), (Ad, d), (As, s), (Ax, v), (Bv, v)]) := HV14.out.own ho hb
  have HB15 : Hid (Below w.heap.size w w15) := HB14.out.trans (hb.mono HB14.out.size)
  clear ho hb HV14
  go_wp2_with fail
  refine (rsame_any Au v.length cu v Bv v.length dv v w15.heap.size _ (HV15.out.get (by simp)) (HV15.out.get (by simp)) (by omega) (by omega)).mono ?_
  rw [same_self]
  rintro e w16 ⟨rfl, hd⟩
  have hb := drawn_below hd.out w15.heap.size
  clear hd
  have HV16 : Hid (Vs w16 [(Au, v), (Aq, d), (Ap, d), (Ar, s), (Af, s), (Ad, d), (As, s), (Ax, v), (Bv, v)]) := HV15.out.keep hb
  have HB16 : Hid (Below w.heap.size w w16) := HB15.out.trans (hb.mono HB15.out.size)
  clear hb HV15
  go_wp2
  go_ret
  exact ⟨rfl, HB16.out⟩
end Go.Proofs.Ythjmadlinkcphaa
