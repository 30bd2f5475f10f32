/- The law MatrixPuts walked. -/
import Derived.Test.YtbbcifcdimfdgaaMp
namespace Go.Proofs.Ytbbcifcdimfdgaa
open Go.RowKit

theorem Up.drop {k : Nat} {m : Mat} (h : Up k m) (a : ByteArray) : Up k (dropM m a) := fun x hx => h x (List.mem_filter.mp hx).1
set_option maxRecDepth 100000 in
set_option maxHeartbeats 16000000 in
theorem matrixPuts_walk (A0 : Option Addr) (n0 c0 : Nat) (z0 : Mat) (a : ByteArray) (A2 : Option Addr) (n2 c2 : Nat) (z2 : List At) (w : World) (hz0 : MatAt w w.heap.size A0 n0 z0) (_hc0 : n0 ≤ c0) (_hs0 : ShortM z0) (_hn0 : c0 ≤ 9223372036854775807) (_ha : a.size ≤ 9223372036854775807) (hz2 : VecAt w w.heap.size A2 n2 z2) (_hc2 : n2 ≤ c2) (_hs2 : Short z2) (_hn2 : n2 ≤ 9223372036854775807) :
    Calls Try.prog 4 #[.slice A0 n0 c0, .string a, .slice A2 n2 c2] w fun e w' => e = .returned (.bool true) ∧ Below w.heap.size w w' := by
  have HZ0 := Lib.hid hz0
  have HZ2 := Lib.hid hz2
  clear hz0 _hc0 _hs0 _hn0 _ha hz2 _hc2 _hs2 _hn2
  go_enter Try.func4, Try.ntmps4
  go_wp2_with fail
  refine (rfixM_any A0 n0 c0 z0 w.heap.size _ (Nat.le_refl _) HZ0.out).mono ?_
  rintro e w1 ⟨m, gm, lm, um, Bm, dm, rfl, ho, hb⟩
  have hdm := ho.cap
  have Gm := Lib.hid gm
  have Um := Lib.hid um
  clear gm um
  have HM1 : Hid (Ms w1 [(Bm, m)]) := (Ms.nil _).ownM ho hb
  have HB1 : Hid (Below w.heap.size w w1) := hb
  clear hb ho
  go_wp2_with fail
  refine (fixv_any A2 n2 c2 z2 w.heap.size _ HB1.out.size (HZ2.out.keep HB1.out)).mono ?_
  rintro e w2 ⟨v, gv, lv, Bv, dv, rfl, hdv, ho, hb⟩
  have Gv := Lib.hid gv
  clear gv
  have HM2 : Hid (Ms w2 [(Bm, m)]) := HM1.out.keep hb
  clear HM1
  have HV2 : Hid (Vs w2 [(Bv, v)]) := (Vs.nil _).own ho hb
  have HB2 : Hid (Below w.heap.size w w2) := HB1.out.trans (hb.mono HB1.out.size)
  clear HB1
  clear hb ho
  obtain ⟨p, hp⟩ : ∃ p, putM m a v = p := ⟨_, rfl⟩
  obtain ⟨d, hd⟩ : ∃ d, dropM m a = d := ⟨_, rfl⟩
  obtain ⟨o, ho⟩ : ∃ o, mOf m a = o := ⟨_, rfl⟩
  have lp : List.length p ≤ 9 := by rw [← hp]; have := putM_len m a v; omega
  have ld : List.length d ≤ 8 := by rw [← hd]; have := dropM_len m a; omega
  have lo : o.length ≤ 96 := by rw [← ho]; exact Um.out.of a
  have Up' : Hid (Up 108 p) := by show Up _ p; rw [← hp]; exact Um.out.put lv a
  have Ud : Hid (Up 96 d) := by show Up _ d; rw [← hd]; exact Um.out.drop a
  have HRP : Hid (rightM p = true) := by show _ = _; rw [← hp]; exact (rightM_iff _).mpr (putM_is Gm.out Gv.out a).1
  have HP := Lib.hid hp
  have HD := Lib.hid hd
  have HO := Lib.hid ho
  clear hp hd ho
  go_wp2_with fail
  refine (toM_any Bm (List.length m) dm m w2.heap.size _ (Nat.le_refl _) (HM2.out.get (by simp)) (by omega) (fun x hx => by have := Um.out x hx; omega)).mono ?_
  rintro e w3 ⟨Ax, cx, rfl, ho, hb⟩
  have hcx := ho.cap
  have HM3 : Hid (Ms w3 [(Ax, m), (Bm, m)]) := HM2.out.ownM ho hb
  clear HM2
  have HV3 : Hid (Vs w3 [(Bv, v)]) := HV2.out.keep hb
  clear HV2
  have HB3 : Hid (Below w.heap.size w w3) := HB2.out.trans (hb.mono HB2.out.size)
  clear HB2
  clear hb ho
  go_wp2_with fail
  refine (to_any Bv v.length dv v w3.heap.size _ (Nat.le_refl _) (HV3.out.get (by simp)) (by omega)).mono ?_
  rintro e w4 ⟨Ay, cy, rfl, hcy, ho, hb⟩
  have HM4 : Hid (Ms w4 [(Ax, m), (Bm, m)]) := HM3.out.keep hb
  clear HM3
  have HV4 : Hid (Vs w4 [(Ay, v), (Bv, v)]) := HV3.out.own ho hb
  clear HV3
  have HB4 : Hid (Below w.heap.size w w4) := HB3.out.trans (hb.mono HB3.out.size)
  clear HB3
  clear hb ho
  go_wp2_with fail
  refine (putM_any Ax (List.length m) cx m a Ay cy v w4 (HM4.out.get (by simp)) (HV4.out.get (by simp)) hcx hcy (by omega) (fun x hx => by have := Um.out x hx; omega) (by omega)).mono ?_
  rw [HP.out]
  rintro e w5 ⟨Ap, cp, rfl, ho, hb⟩
  have hcp := ho.cap
  have HM5 : Hid (Ms w5 [(Ap, p), (Ax, m), (Bm, m)]) := HM4.out.ownM ho hb
  clear HM4
  have HV5 : Hid (Vs w5 [(Ay, v), (Bv, v)]) := HV4.out.keep hb
  clear HV4
  have HB5 : Hid (Below w.heap.size w w5) := HB4.out.trans (hb.mono HB4.out.size)
  clear HB4
  clear hb ho
  go_wp2_with fail
  refine (mtold_any _).mono ?_
  rintro e w6 ⟨rfl, hb⟩
  have HM6 : Hid (Ms w6 [(Ap, p), (Ax, m), (Bm, m)]) := HM5.out.keep hb
  clear HM5
  have HV6 : Hid (Vs w6 [(Ay, v), (Bv, v)]) := HV5.out.keep hb
  clear HV5
  have HB6 : Hid (Below w.heap.size w w6) := HB5.out.trans (hb.mono HB5.out.size)
  clear HB5
  clear hb
  go_wp2_with fail
  refine (fromM_any Ap (List.length p) cp p w6.heap.size _ (Nat.le_refl _) (HM6.out.get (by simp)) (by omega) (fun x hx => by have := Up'.out x hx; omega)).mono ?_
  rintro e w7 ⟨Af, cf, rfl, ho, hb⟩
  have hcf := ho.cap
  have HM7 : Hid (Ms w7 [(Af, p), (Ap, p), (Ax, m), (Bm, m)]) := HM6.out.ownM ho hb
  clear HM6
  have HV7 : Hid (Vs w7 [(Ay, v), (Bv, v)]) := HV6.out.keep hb
  clear HV6
  have HB7 : Hid (Below w.heap.size w w7) := HB6.out.trans (hb.mono HB6.out.size)
  clear HB6
  clear hb ho
  go_wp2_with fail
  refine (rputM_any Bm (List.length m) dm m a Bv dv v w7.heap.size _ (Nat.le_refl _) (HM7.out.get (by simp)) (HV7.out.get (by simp)) (by omega) (fun x hx => by have := Um.out x hx; omega) (by omega) Gm.out Gv.out).mono ?_
  rw [HP.out]
  rintro e w8 ⟨Ar, cr, rfl, ho, hb⟩
  have hcr := ho.cap
  have HM8 : Hid (Ms w8 [(Ar, p), (Af, p), (Ap, p), (Ax, m), (Bm, m)]) := HM7.out.ownM ho hb
  clear HM7
  have HV8 : Hid (Vs w8 [(Ay, v), (Bv, v)]) := HV7.out.keep hb
  clear HV7
  have HB8 : Hid (Below w.heap.size w w8) := HB7.out.trans (hb.mono HB7.out.size)
  clear HB7
  clear hb ho
  go_wp2_with fail
  refine (rsameM_any Af (List.length p) cf p Ar (List.length p) cr p w8.heap.size _ (Nat.le_refl _) (HM8.out.get (by simp)) (HM8.out.get (by simp)) (by omega) (fun x hx => by have := Up'.out x hx; omega) (fun x hx => by have := Up'.out x hx; omega)).mono ?_
  rw [sameM_self]
  rintro e w9 ⟨rfl, hb⟩
  have HM9 : Hid (Ms w9 [(Ar, p), (Af, p), (Ap, p), (Ax, m), (Bm, m)]) := HM8.out.keep hb
  clear HM8
  have HV9 : Hid (Vs w9 [(Ay, v), (Bv, v)]) := HV8.out.keep hb
  clear HV8
  have HB9 : Hid (Below w.heap.size w w9) := HB8.out.trans (hb.mono HB8.out.size)
  clear HB8
  clear hb
  go_wp2_with fail
  refine (rightM_any Ap (List.length p) cp p w9.heap.size _ (Nat.le_refl _) (HM9.out.get (by simp)) (by omega) (fun x hx => by have := Up'.out x hx; omega)).mono ?_
  rw [HRP.out]
  rintro e w10 ⟨rfl, hb⟩
  have HM10 : Hid (Ms w10 [(Ar, p), (Af, p), (Ap, p), (Ax, m), (Bm, m)]) := HM9.out.keep hb
  clear HM9
  have HV10 : Hid (Vs w10 [(Ay, v), (Bv, v)]) := HV9.out.keep hb
  clear HV9
  have HB10 : Hid (Below w.heap.size w w10) := HB9.out.trans (hb.mono HB9.out.size)
  clear HB9
  clear hb
  go_wp2_with fail
  refine (dropM_any Ax (List.length m) cx m a w10.heap.size _ (Nat.le_refl _) (HM10.out.get (by simp)) (by omega) (fun x hx => by have := Um.out x hx; omega)).mono ?_
  rw [HD.out]
  rintro e w11 ⟨Ad, cd, rfl, ho, hb⟩
  have hcd := ho.cap
  have HM11 : Hid (Ms w11 [(Ad, d), (Ar, p), (Af, p), (Ap, p), (Ax, m), (Bm, m)]) := HM10.out.ownM ho hb
  clear HM10
  have HV11 : Hid (Vs w11 [(Ay, v), (Bv, v)]) := HV10.out.keep hb
  clear HV10
  have HB11 : Hid (Below w.heap.size w w11) := HB10.out.trans (hb.mono HB10.out.size)
  clear HB10
  clear hb ho
  go_wp2_with fail
  refine (fromM_any Ad (List.length d) cd d w11.heap.size _ (Nat.le_refl _) (HM11.out.get (by simp)) (by omega) (fun x hx => by have := Ud.out x hx; omega)).mono ?_
  rintro e w12 ⟨Ag, cg, rfl, ho, hb⟩
  have hcg := ho.cap
  have HM12 : Hid (Ms w12 [(Ag, d), (Ad, d), (Ar, p), (Af, p), (Ap, p), (Ax, m), (Bm, m)]) := HM11.out.ownM ho hb
  clear HM11
  have HV12 : Hid (Vs w12 [(Ay, v), (Bv, v)]) := HV11.out.keep hb
  clear HV11
  have HB12 : Hid (Below w.heap.size w w12) := HB11.out.trans (hb.mono HB11.out.size)
  clear HB11
  clear hb ho
  go_wp2_with fail
  refine (rdropM_any Bm (List.length m) dm m a w12.heap.size _ (Nat.le_refl _) (HM12.out.get (by simp)) (by omega)).mono ?_
  rw [HD.out]
  rintro e w13 ⟨Ah, ch, rfl, ho, hb⟩
  have hch := ho.cap
  have HM13 : Hid (Ms w13 [(Ah, d), (Ag, d), (Ad, d), (Ar, p), (Af, p), (Ap, p), (Ax, m), (Bm, m)]) := HM12.out.ownM ho hb
  clear HM12
  have HV13 : Hid (Vs w13 [(Ay, v), (Bv, v)]) := HV12.out.keep hb
  clear HV12
  have HB13 : Hid (Below w.heap.size w w13) := HB12.out.trans (hb.mono HB12.out.size)
  clear HB12
  clear hb ho
  go_wp2_with fail
  refine (rsameM_any Ag (List.length d) cg d Ah (List.length d) ch d w13.heap.size _ (Nat.le_refl _) (HM13.out.get (by simp)) (HM13.out.get (by simp)) (by omega) (fun x hx => by have := Ud.out x hx; omega) (fun x hx => by have := Ud.out x hx; omega)).mono ?_
  rw [sameM_self]
  rintro e w14 ⟨rfl, hb⟩
  have HM14 : Hid (Ms w14 [(Ah, d), (Ag, d), (Ad, d), (Ar, p), (Af, p), (Ap, p), (Ax, m), (Bm, m)]) := HM13.out.keep hb
  clear HM13
  have HV14 : Hid (Vs w14 [(Ay, v), (Bv, v)]) := HV13.out.keep hb
  clear HV13
  have HB14 : Hid (Below w.heap.size w w14) := HB13.out.trans (hb.mono HB13.out.size)
  clear HB13
  clear hb
  go_wp2_with fail
  refine (ofM_any Ax (List.length m) cx m a w14.heap.size _ (Nat.le_refl _) (HM14.out.get (by simp)) (by omega) Gm.out.1 (by rw [HO.out]; omega)).mono ?_
  rw [HO.out]
  rintro e w15 ⟨Ao, co, rfl, hco, ho, hb⟩
  have HM15 : Hid (Ms w15 [(Ah, d), (Ag, d), (Ad, d), (Ar, p), (Af, p), (Ap, p), (Ax, m), (Bm, m)]) := HM14.out.keep hb
  clear HM14
  have HV15 : Hid (Vs w15 [(Ao, o), (Ay, v), (Bv, v)]) := HV14.out.own ho hb
  clear HV14
  have HB15 : Hid (Below w.heap.size w w15) := HB14.out.trans (hb.mono HB14.out.size)
  clear HB14
  clear hb ho
  go_wp2_with fail
  refine (from_any Ao o.length co o w15.heap.size _ (Nat.le_refl _) (HV15.out.get (by simp)) (by omega)).mono ?_
  rintro e w16 ⟨Au, cu, rfl, hcu, ho, hb⟩
  have HM16 : Hid (Ms w16 [(Ah, d), (Ag, d), (Ad, d), (Ar, p), (Af, p), (Ap, p), (Ax, m), (Bm, m)]) := HM15.out.keep hb
  clear HM15
  have HV16 : Hid (Vs w16 [(Au, o), (Ao, o), (Ay, v), (Bv, v)]) := HV15.out.own ho hb
  clear HV15
  have HB16 : Hid (Below w.heap.size w w16) := HB15.out.trans (hb.mono HB15.out.size)
  clear HB15
  clear hb ho
  go_wp2_with fail
  refine (rofM_any Bm (List.length m) dm m a w16.heap.size _ (HM16.out.get (by simp)) (by omega)).mono ?_
  rw [HO.out]
  rintro e w' ⟨Aq, cq, rfl, hcq, hvq, rfl⟩
  have HVQ := Lib.hid hvq
  clear hvq
  go_wp2_with fail
  refine (rsame_any Au o.length cu o Aq o.length cq o w16.heap.size _ (HV16.out.get (by simp)) HVQ.out (by omega) (by omega)).mono ?_
  rw [same_self]
  rintro e w17 ⟨rfl, hd⟩
  have hb := drawn_below hd.out w16.heap.size
  clear hd
  have HM17 : Hid (Ms w17 [(Ah, d), (Ag, d), (Ad, d), (Ar, p), (Af, p), (Ap, p), (Ax, m), (Bm, m)]) := HM16.out.keep hb
  clear HM16
  have HV17 : Hid (Vs w17 [(Au, o), (Ao, o), (Ay, v), (Bv, v)]) := HV16.out.keep hb
  clear HV16
  have HB17 : Hid (Below w.heap.size w w17) := HB16.out.trans (hb.mono HB16.out.size)
  clear HB16
  clear hb
  go_wp2_with fail
  refine (fromM_any Ax (List.length m) cx m w17.heap.size _ (Nat.le_refl _) (HM17.out.get (by simp)) (by omega) (fun x hx => by have := Um.out x hx; omega)).mono ?_
  rintro e w18 ⟨Ak, ck, rfl, ho, hb⟩
  have hck := ho.cap
  have HM18 : Hid (Ms w18 [(Ak, m), (Ah, d), (Ag, d), (Ad, d), (Ar, p), (Af, p), (Ap, p), (Ax, m), (Bm, m)]) := HM17.out.ownM ho hb
  clear HM17
  have HV18 : Hid (Vs w18 [(Au, o), (Ao, o), (Ay, v), (Bv, v)]) := HV17.out.keep hb
  clear HV17
  have HB18 : Hid (Below w.heap.size w w18) := HB17.out.trans (hb.mono HB17.out.size)
  clear HB17
  clear hb ho
  go_wp2_with fail
  refine (rsameM_any Ak (List.length m) ck m Bm (List.length m) dm m w18.heap.size _ (Nat.le_refl _) (HM18.out.get (by simp)) (HM18.out.get (by simp)) (by omega) (fun x hx => by have := Um.out x hx; omega) (fun x hx => by have := Um.out x hx; omega)).mono ?_
  rw [sameM_self]
  rintro e w19 ⟨rfl, hb⟩
  have HM19 : Hid (Ms w19 [(Ak, m), (Ah, d), (Ag, d), (Ad, d), (Ar, p), (Af, p), (Ap, p), (Ax, m), (Bm, m)]) := HM18.out.keep hb
  clear HM18
  have HV19 : Hid (Vs w19 [(Au, o), (Ao, o), (Ay, v), (Bv, v)]) := HV18.out.keep hb
  clear HV18
  have HB19 : Hid (Below w.heap.size w w19) := HB18.out.trans (hb.mono HB18.out.size)
  clear HB18
  clear hb
  go_wp2
  go_ret
  exact ⟨rfl, HB19.out⟩
end Go.Proofs.Ytbbcifcdimfdgaa
