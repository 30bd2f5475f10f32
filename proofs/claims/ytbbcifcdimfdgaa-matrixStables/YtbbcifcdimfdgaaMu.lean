/- The law MatrixMerges walked. -/
import Derived.Test.YtbbcifcdimfdgaaMt
namespace Go.Proofs.Ytbbcifcdimfdgaa
open Go.RowKit

theorem cutS_upto (A : Option Addr) (n c p : Nat) (h1 : p ≤ n) (h2 : n ≤ c) : ∀ W, (Instr.slice 49 (.slice A n c) none (some (.int .i64 (p : Int))) none).run Try.prog W = .ok (.slice A p c) W := by
  intro W
  have hel : Try.prog.elem 49 = 9 := by kernel_rfl
  have hsz : ∀ W, (sizeOf 9).run Try.prog W = .ok 1 W := fun W => by
    obtain ⟨i, hi, _, hz1, _⟩ := info_parts rowR.i
    simp [sizeOf, typeInfo, hi, hz1]
  rw [run_slice_h (P := Try.prog) W 49 A n c (by rw [hel]; exact Try.underlying49) .i64 (p : Int) (by omega) (by omega), hel, hsz]
  cases A <;> simp [sliced, Result.andThen, Addr.add]
theorem GoodM.up {m : Mat} {k : Nat} (h : GoodM m) (hu : Up k m) (hk : k ≤ 100000) : ∀ x ∈ m, x.2.length ≤ 100000 ∧ Rising x.2 := fun x hx => ⟨Nat.le_trans (hu x hx) hk, (h.2 x hx).2.1.1⟩
set_option maxRecDepth 100000 in
set_option maxHeartbeats 16000000 in
theorem matrixMerges_walk (A0 : Option Addr) (n0 c0 : Nat) (z0 : Mat) (A1 : Option Addr) (n1 c1 : Nat) (z1 : Mat) (A2 : Option Addr) (n2 c2 : Nat) (z2 : List ByteArray) (w : World) (hz0 : MatAt w w.heap.size A0 n0 z0) (_hc0 : n0 ≤ c0) (_hs0 : ShortM z0) (_hn0 : c0 ≤ 9223372036854775807) (hz1 : MatAt w w.heap.size A1 n1 z1) (_hc1 : n1 ≤ c1) (_hs1 : ShortM z1) (_hn1 : c1 ≤ 9223372036854775807) (hz2 : RowAt cellsT 1 w w.heap.size A2 n2 z2) (hc2 : n2 ≤ c2) (_hs2 : ∀ s ∈ z2, s.size ≤ 9223372036854775807) (_hn2 : c2 ≤ 9223372036854775807) :
    Calls Try.prog 5 #[.slice A0 n0 c0, .slice A1 n1 c1, .slice A2 n2 c2] w fun e w' => e = .returned (.bool true) ∧ Below w.heap.size w w' := by
  obtain ⟨m2, hm2⟩ : ∃ m : Nat, (if 12 < (n2 : Int) then (12 : Int) else n2) = m := ⟨min n2 12, by split <;> omega⟩
  have hmn2 : m2 ≤ n2 := by split at hm2 <;> omega
  have hm12 : m2 ≤ 12 := by split at hm2 <;> omega
  have hu2 := cutS_upto A2 n2 c2 m2 hmn2 hc2
  have HRL := Lib.hid (hz2.take hmn2)
  generalize z2.take m2 = l at *
  have hll := HRL.out.1
  have HT0 : Hid (Ts w [(A2, l)]) := fun t ht => by simp at ht; subst ht; show RowAt _ _ _ _ _ l.length _; rw [hll]; exact HRL.out
  have HZ0 := Lib.hid hz0
  have HZ1 := Lib.hid hz1
  subst hll
  clear hz0 _hc0 _hs0 _hn0 hz1 _hc1 _hs1 _hn1 hz2 _hs2 _hn2 HRL
  go_enter Try.func5, Try.ntmps5
  go_wp2_with fail
  refine (rfixM_any A0 n0 c0 z0 w.heap.size _ (Nat.le_refl _) HZ0.out).mono ?_
  rintro e w1 ⟨x, gx, lx, ux, Bx, dx, rfl, ho, hb⟩
  have hdx := ho.cap
  have Gx := Lib.hid gx
  have Ux := Lib.hid ux
  clear gx ux
  have HM1 : Hid (Ms w1 [(Bx, x)]) := (Ms.nil _).ownM ho hb
  have HT1 : Hid (Ts w1 [(A2, l)]) := HT0.out.keep hb
  clear HT0
  have HB1 : Hid (Below w.heap.size w w1) := hb
  clear hb ho
  go_wp2_with fail
  refine (rfixM_any A1 n1 c1 z1 w.heap.size _ HB1.out.size (HZ1.out.keep HB1.out)).mono ?_
  rintro e w2 ⟨y, gy, ly, uy, By, dy, rfl, ho, hb⟩
  have hdy := ho.cap
  have Gy := Lib.hid gy
  have Uy := Lib.hid uy
  clear gy uy
  have HM2 : Hid (Ms w2 [(By, y), (Bx, x)]) := HM1.out.ownM ho hb
  clear HM1
  have HT2 : Hid (Ts w2 [(A2, l)]) := HT1.out.keep hb
  clear HT1
  have HB2 : Hid (Below w.heap.size w w2) := HB1.out.trans (hb.mono HB1.out.size)
  clear HB1
  clear hb ho
  obtain ⟨m, hm⟩ : ∃ m, mergeF x y = m := ⟨_, rfl⟩
  have lm : List.length m ≤ 16 := by rw [← hm]; have := merge_len x y; omega
  have Gm : Hid (GoodM m) := by show GoodM m; rw [← hm]; exact Gx.out.merge Gy.out
  have Um : Hid (Up 192 m) := by show Up _ m; rw [← hm]; exact Ux.out.merge Uy.out
  have HM0 := Lib.hid hm
  have HMS : Hid (mergeF y x = m) := by show _ = _; rw [← hm]; exact (merge_swap Gx.out Gy.out).symm
  have HWX : Hid (withinF (stableF x l) (stableF m l) = true) := by show _ = _; rw [← hm]; exact stable_mono Gx.out (Gx.out.merge Gy.out) (fun b a => (merge_more Gx.out Gy.out b a).1) l
  have HWY : Hid (withinF (stableF y l) (stableF m l) = true) := by show _ = _; rw [← hm]; exact stable_mono Gy.out (Gx.out.merge Gy.out) (fun b a => (merge_more Gx.out Gy.out b a).2) l
  have lsx := stableF_len Ux.out l
  have lsy := stableF_len Uy.out l
  have lsm := stableF_len Um.out l
  have HRS := Lib.hid (stableF_good Gm.out l).1
  obtain ⟨sx, hsx⟩ : ∃ s, stableF x l = s := ⟨_, rfl⟩
  obtain ⟨sy, hsy⟩ : ∃ s, stableF y l = s := ⟨_, rfl⟩
  obtain ⟨sm, hsm⟩ : ∃ s, stableF m l = s := ⟨_, rfl⟩
  rw [hsx, hsm] at HWX
  rw [hsy, hsm] at HWY
  rw [hsx] at lsx
  rw [hsy] at lsy
  rw [hsm] at lsm HRS
  have HSX := Lib.hid hsx
  have HSY := Lib.hid hsy
  have HSM := Lib.hid hsm
  obtain ⟨b, hb⟩ : ∃ b, sameM x y = b := ⟨_, rfl⟩
  have HSB := Lib.hid hb
  have hbb : (b != b) = false := bne_self_eq_false b
  clear hm hsx hsy hsm hb
  go_wp2_with fail
  refine (toM_any Bx (List.length x) dx x w2.heap.size _ (Nat.le_refl _) (HM2.out.get (by simp)) (by omega) (fun x hx => by have := Ux.out x hx; omega)).mono ?_
  rintro e w3 ⟨Ax, cx, rfl, ho, hb⟩
  have hcx := ho.cap
  have HM3 : Hid (Ms w3 [(Ax, x), (By, y), (Bx, x)]) := HM2.out.ownM ho hb
  clear HM2
  have HT3 : Hid (Ts w3 [(A2, l)]) := HT2.out.keep hb
  clear HT2
  have HB3 : Hid (Below w.heap.size w w3) := HB2.out.trans (hb.mono HB2.out.size)
  clear HB2
  clear hb ho
  go_wp2_with fail
  refine (toM_any By (List.length y) dy y w3.heap.size _ (Nat.le_refl _) (HM3.out.get (by simp)) (by omega) (fun x hx => by have := Uy.out x hx; omega)).mono ?_
  rintro e w4 ⟨Ay, cy, rfl, ho, hb⟩
  have hcy := ho.cap
  have HM4 : Hid (Ms w4 [(Ay, y), (Ax, x), (By, y), (Bx, x)]) := HM3.out.ownM ho hb
  clear HM3
  have HT4 : Hid (Ts w4 [(A2, l)]) := HT3.out.keep hb
  clear HT3
  have HB4 : Hid (Below w.heap.size w w4) := HB3.out.trans (hb.mono HB3.out.size)
  clear HB3
  clear hb ho
  go_wp2_with fail
  refine (mergeM_any Ax (List.length x) cx x Ay (List.length y) cy y w4.heap.size _ (Nat.le_refl _) (HM4.out.get (by simp)) (HM4.out.get (by simp)) hcx hcy (by omega) (fun x hx => by have := Ux.out x hx; omega) (fun x hx => by have := Uy.out x hx; omega)).mono ?_
  rw [HM0.out]
  rintro e w5 ⟨Am, cm, rfl, ho, hb⟩
  have hcm := ho.cap
  have HM5 : Hid (Ms w5 [(Am, m), (Ay, y), (Ax, x), (By, y), (Bx, x)]) := HM4.out.ownM ho hb
  clear HM4
  have HT5 : Hid (Ts w5 [(A2, l)]) := HT4.out.keep hb
  clear HT4
  have HB5 : Hid (Below w.heap.size w w5) := HB4.out.trans (hb.mono HB4.out.size)
  clear HB4
  clear hb ho
  go_wp2_with fail
  refine (idTo_any A2 l.length c2 l w5.heap.size _ (Nat.le_refl _) (HT5.out.get (by simp)) (by omega)).mono ?_
  rintro e w6 ⟨At, ct, rfl, ho, hb⟩
  have hct := rown_cap ho
  have HM6 : Hid (Ms w6 [(Am, m), (Ay, y), (Ax, x), (By, y), (Bx, x)]) := HM5.out.keep hb
  clear HM5
  have HT6 : Hid (Ts w6 [(At, l), (A2, l)]) := HT5.out.ownT ho hb
  clear HT5
  have HB6 : Hid (Below w.heap.size w w6) := HB5.out.trans (hb.mono HB5.out.size)
  clear HB5
  clear hb ho
  go_wp2_with fail
  refine (stableM_any Am (List.length m) cm m At l.length ct l w6.heap.size _ (Nat.le_refl _) (HM6.out.get (by simp)) (HT6.out.get (by simp)) hct (by omega) (by omega) Gm.out.1 (Gm.out.up Um.out (by omega))).mono ?_
  rw [HSM.out]
  rintro e w7 ⟨As, cs, rfl, hcs, ho, hb⟩
  have HM7 : Hid (Ms w7 [(Am, m), (Ay, y), (Ax, x), (By, y), (Bx, x)]) := HM6.out.keep hb
  clear HM6
  have HV7 : Hid (Vs w7 [(As, sm)]) := (Vs.nil _).own ho hb
  have HT7 : Hid (Ts w7 [(At, l), (A2, l)]) := HT6.out.keep hb
  clear HT6
  have HB7 : Hid (Below w.heap.size w w7) := HB6.out.trans (hb.mono HB6.out.size)
  clear HB6
  clear hb ho
  go_wp2_with fail
  refine (mtold_any _).mono ?_
  rintro e w8 ⟨rfl, hb⟩
  have HM8 : Hid (Ms w8 [(Am, m), (Ay, y), (Ax, x), (By, y), (Bx, x)]) := HM7.out.keep hb
  clear HM7
  have HV8 : Hid (Vs w8 [(As, sm)]) := HV7.out.keep hb
  clear HV7
  have HT8 : Hid (Ts w8 [(At, l), (A2, l)]) := HT7.out.keep hb
  clear HT7
  have HB8 : Hid (Below w.heap.size w w8) := HB7.out.trans (hb.mono HB7.out.size)
  clear HB7
  clear hb
  go_wp2_with fail
  refine (fromM_any Am (List.length m) cm m w8.heap.size _ (Nat.le_refl _) (HM8.out.get (by simp)) (by omega) (fun x hx => by have := Um.out x hx; omega)).mono ?_
  rintro e w9 ⟨Af, cf, rfl, ho, hb⟩
  have hcf := ho.cap
  have HM9 : Hid (Ms w9 [(Af, m), (Am, m), (Ay, y), (Ax, x), (By, y), (Bx, x)]) := HM8.out.ownM ho hb
  clear HM8
  have HV9 : Hid (Vs w9 [(As, sm)]) := HV8.out.keep hb
  clear HV8
  have HT9 : Hid (Ts w9 [(At, l), (A2, l)]) := HT8.out.keep hb
  clear HT8
  have HB9 : Hid (Below w.heap.size w w9) := HB8.out.trans (hb.mono HB8.out.size)
  clear HB8
  clear hb ho
  go_wp2_with fail
  refine (rmergeM_any Bx (List.length x) dx x By (List.length y) dy y w9.heap.size _ (Nat.le_refl _) (HM9.out.get (by simp)) (HM9.out.get (by simp)) (by omega) Gx.out Gy.out (fun x hx => by have := Ux.out x hx; omega) (fun x hx => by have := Uy.out x hx; omega)).mono ?_
  rw [HM0.out]
  rintro e w10 ⟨Ar, cr, rfl, ho, hb⟩
  have hcr := ho.cap
  have HM10 : Hid (Ms w10 [(Ar, m), (Af, m), (Am, m), (Ay, y), (Ax, x), (By, y), (Bx, x)]) := HM9.out.ownM ho hb
  clear HM9
  have HV10 : Hid (Vs w10 [(As, sm)]) := HV9.out.keep hb
  clear HV9
  have HT10 : Hid (Ts w10 [(At, l), (A2, l)]) := HT9.out.keep hb
  clear HT9
  have HB10 : Hid (Below w.heap.size w w10) := HB9.out.trans (hb.mono HB9.out.size)
  clear HB9
  clear hb ho
  go_wp2_with fail
  refine (rsameM_any Af (List.length m) cf m Ar (List.length m) cr m w10.heap.size _ (Nat.le_refl _) (HM10.out.get (by simp)) (HM10.out.get (by simp)) (by omega) (fun x hx => by have := Um.out x hx; omega) (fun x hx => by have := Um.out x hx; omega)).mono ?_
  rw [sameM_self]
  rintro e w11 ⟨rfl, hb⟩
  have HM11 : Hid (Ms w11 [(Ar, m), (Af, m), (Am, m), (Ay, y), (Ax, x), (By, y), (Bx, x)]) := HM10.out.keep hb
  clear HM10
  have HV11 : Hid (Vs w11 [(As, sm)]) := HV10.out.keep hb
  clear HV10
  have HT11 : Hid (Ts w11 [(At, l), (A2, l)]) := HT10.out.keep hb
  clear HT10
  have HB11 : Hid (Below w.heap.size w w11) := HB10.out.trans (hb.mono HB10.out.size)
  clear HB10
  clear hb
  go_wp2_with fail
  refine (mergeM_any Ay (List.length y) cy y Ax (List.length x) cx x w11.heap.size _ (Nat.le_refl _) (HM11.out.get (by simp)) (HM11.out.get (by simp)) hcy hcx (by omega) (fun x hx => by have := Uy.out x hx; omega) (fun x hx => by have := Ux.out x hx; omega)).mono ?_
  rw [HMS.out]
  rintro e w12 ⟨Ak, ck, rfl, ho, hb⟩
  have hck := ho.cap
  have HM12 : Hid (Ms w12 [(Ak, m), (Ar, m), (Af, m), (Am, m), (Ay, y), (Ax, x), (By, y), (Bx, x)]) := HM11.out.ownM ho hb
  clear HM11
  have HV12 : Hid (Vs w12 [(As, sm)]) := HV11.out.keep hb
  clear HV11
  have HT12 : Hid (Ts w12 [(At, l), (A2, l)]) := HT11.out.keep hb
  clear HT11
  have HB12 : Hid (Below w.heap.size w w12) := HB11.out.trans (hb.mono HB11.out.size)
  clear HB11
  clear hb ho
  go_wp2_with fail
  refine (sameM_any Am (List.length m) cm m Ak (List.length m) ck m w12.heap.size _ (Nat.le_refl _) (HM12.out.get (by simp)) (HM12.out.get (by simp)) (by omega) (fun x hx => by have := Um.out x hx; omega) (fun x hx => by have := Um.out x hx; omega)).mono ?_
  rw [sameM_self]
  rintro e w13 ⟨rfl, hb⟩
  have HM13 : Hid (Ms w13 [(Ak, m), (Ar, m), (Af, m), (Am, m), (Ay, y), (Ax, x), (By, y), (Bx, x)]) := HM12.out.keep hb
  clear HM12
  have HV13 : Hid (Vs w13 [(As, sm)]) := HV12.out.keep hb
  clear HV12
  have HT13 : Hid (Ts w13 [(At, l), (A2, l)]) := HT12.out.keep hb
  clear HT12
  have HB13 : Hid (Below w.heap.size w w13) := HB12.out.trans (hb.mono HB12.out.size)
  clear HB12
  clear hb
  go_wp2_with fail
  refine (sameM_any Ax (List.length x) cx x Ay (List.length y) cy y w13.heap.size _ (Nat.le_refl _) (HM13.out.get (by simp)) (HM13.out.get (by simp)) (by omega) (fun x hx => by have := Ux.out x hx; omega) (fun x hx => by have := Uy.out x hx; omega)).mono ?_
  rw [HSB.out]
  rintro e w14 ⟨rfl, hb⟩
  have HM14 : Hid (Ms w14 [(Ak, m), (Ar, m), (Af, m), (Am, m), (Ay, y), (Ax, x), (By, y), (Bx, x)]) := HM13.out.keep hb
  clear HM13
  have HV14 : Hid (Vs w14 [(As, sm)]) := HV13.out.keep hb
  clear HV13
  have HT14 : Hid (Ts w14 [(At, l), (A2, l)]) := HT13.out.keep hb
  clear HT13
  have HB14 : Hid (Below w.heap.size w w14) := HB13.out.trans (hb.mono HB13.out.size)
  clear HB13
  clear hb
  go_wp2_with fail
  refine (rsameM_any Bx (List.length x) dx x By (List.length y) dy y w14.heap.size _ (Nat.le_refl _) (HM14.out.get (by simp)) (HM14.out.get (by simp)) (by omega) (fun x hx => by have := Ux.out x hx; omega) (fun x hx => by have := Uy.out x hx; omega)).mono ?_
  rw [HSB.out]
  rintro e w15 ⟨rfl, hb⟩
  have HM15 : Hid (Ms w15 [(Ak, m), (Ar, m), (Af, m), (Am, m), (Ay, y), (Ax, x), (By, y), (Bx, x)]) := HM14.out.keep hb
  clear HM14
  have HV15 : Hid (Vs w15 [(As, sm)]) := HV14.out.keep hb
  clear HV14
  have HT15 : Hid (Ts w15 [(At, l), (A2, l)]) := HT14.out.keep hb
  clear HT14
  have HB15 : Hid (Below w.heap.size w w15) := HB14.out.trans (hb.mono HB14.out.size)
  clear HB14
  clear hb
  go_wp2_with fail
  refine (from_any As sm.length cs sm w15.heap.size _ (Nat.le_refl _) (HV15.out.get (by simp)) (by omega)).mono ?_
  rintro e w16 ⟨Au, cu, rfl, hcu, ho, hb⟩
  have HM16 : Hid (Ms w16 [(Ak, m), (Ar, m), (Af, m), (Am, m), (Ay, y), (Ax, x), (By, y), (Bx, x)]) := HM15.out.keep hb
  clear HM15
  have HV16 : Hid (Vs w16 [(Au, sm), (As, sm)]) := HV15.out.own ho hb
  clear HV15
  have HT16 : Hid (Ts w16 [(At, l), (A2, l)]) := HT15.out.keep hb
  clear HT15
  have HB16 : Hid (Below w.heap.size w w16) := HB15.out.trans (hb.mono HB15.out.size)
  clear HB15
  clear hb ho
  go_wp2_with fail
  refine (rmergeM_any Bx (List.length x) dx x By (List.length y) dy y w16.heap.size _ (Nat.le_refl _) (HM16.out.get (by simp)) (HM16.out.get (by simp)) (by omega) Gx.out Gy.out (fun x hx => by have := Ux.out x hx; omega) (fun x hx => by have := Uy.out x hx; omega)).mono ?_
  rw [HM0.out]
  rintro e w17 ⟨Aq, cq, rfl, ho, hb⟩
  have hcq := ho.cap
  have HM17 : Hid (Ms w17 [(Aq, m), (Ak, m), (Ar, m), (Af, m), (Am, m), (Ay, y), (Ax, x), (By, y), (Bx, x)]) := HM16.out.ownM ho hb
  clear HM16
  have HV17 : Hid (Vs w17 [(Au, sm), (As, sm)]) := HV16.out.keep hb
  clear HV16
  have HT17 : Hid (Ts w17 [(At, l), (A2, l)]) := HT16.out.keep hb
  clear HT16
  have HB17 : Hid (Below w.heap.size w w17) := HB16.out.trans (hb.mono HB16.out.size)
  clear HB16
  clear hb ho
  go_wp2_with fail
  refine (rstableM_any Aq (List.length m) cq m A2 l.length c2 l w17.heap.size _ (Nat.le_refl _) (HM17.out.get (by simp)) (HT17.out.get (by simp)) (by omega) (by omega) Gm.out (fun x hx => by have := Um.out x hx; omega)).mono ?_
  rw [HSM.out]
  rintro e w18 ⟨Av, cv, rfl, hcv, ho, hb⟩
  have HM18 : Hid (Ms w18 [(Aq, m), (Ak, m), (Ar, m), (Af, m), (Am, m), (Ay, y), (Ax, x), (By, y), (Bx, x)]) := HM17.out.keep hb
  clear HM17
  have HV18 : Hid (Vs w18 [(Av, sm), (Au, sm), (As, sm)]) := HV17.out.own ho hb
  clear HV17
  have HT18 : Hid (Ts w18 [(At, l), (A2, l)]) := HT17.out.keep hb
  clear HT17
  have HB18 : Hid (Below w.heap.size w w18) := HB17.out.trans (hb.mono HB17.out.size)
  clear HB17
  clear hb ho
  go_wp2_with fail
  refine (rsame_any Au sm.length cu sm Av sm.length cv sm w18.heap.size _ (HV18.out.get (by simp)) (HV18.out.get (by simp)) (by omega) (by omega)).mono ?_
  rw [same_self]
  rintro e w19 ⟨rfl, hd⟩
  have hb := drawn_below hd.out w18.heap.size
  clear hd
  have HM19 : Hid (Ms w19 [(Aq, m), (Ak, m), (Ar, m), (Af, m), (Am, m), (Ay, y), (Ax, x), (By, y), (Bx, x)]) := HM18.out.keep hb
  clear HM18
  have HV19 : Hid (Vs w19 [(Av, sm), (Au, sm), (As, sm)]) := HV18.out.keep hb
  clear HV18
  have HT19 : Hid (Ts w19 [(At, l), (A2, l)]) := HT18.out.keep hb
  clear HT18
  have HB19 : Hid (Below w.heap.size w w19) := HB18.out.trans (hb.mono HB18.out.size)
  clear HB18
  clear hb
  go_wp2_with fail
  refine (idTo_any A2 l.length c2 l w19.heap.size _ (Nat.le_refl _) (HT19.out.get (by simp)) (by omega)).mono ?_
  rintro e w20 ⟨Ai, ci, rfl, ho, hb⟩
  have hci := rown_cap ho
  have HM20 : Hid (Ms w20 [(Aq, m), (Ak, m), (Ar, m), (Af, m), (Am, m), (Ay, y), (Ax, x), (By, y), (Bx, x)]) := HM19.out.keep hb
  clear HM19
  have HV20 : Hid (Vs w20 [(Av, sm), (Au, sm), (As, sm)]) := HV19.out.keep hb
  clear HV19
  have HT20 : Hid (Ts w20 [(Ai, l), (At, l), (A2, l)]) := HT19.out.ownT ho hb
  clear HT19
  have HB20 : Hid (Below w.heap.size w w20) := HB19.out.trans (hb.mono HB19.out.size)
  clear HB19
  clear hb ho
  go_wp2_with fail
  refine (stableM_any Ax (List.length x) cx x Ai l.length ci l w20.heap.size _ (Nat.le_refl _) (HM20.out.get (by simp)) (HT20.out.get (by simp)) hci (by omega) (by omega) Gx.out.1 (Gx.out.up Ux.out (by omega))).mono ?_
  rw [HSX.out]
  rintro e w21 ⟨Ag, cg, rfl, hcg, ho, hb⟩
  have HM21 : Hid (Ms w21 [(Aq, m), (Ak, m), (Ar, m), (Af, m), (Am, m), (Ay, y), (Ax, x), (By, y), (Bx, x)]) := HM20.out.keep hb
  clear HM20
  have HV21 : Hid (Vs w21 [(Ag, sx), (Av, sm), (Au, sm), (As, sm)]) := HV20.out.own ho hb
  clear HV20
  have HT21 : Hid (Ts w21 [(Ai, l), (At, l), (A2, l)]) := HT20.out.keep hb
  clear HT20
  have HB21 : Hid (Below w.heap.size w w21) := HB20.out.trans (hb.mono HB20.out.size)
  clear HB20
  clear hb ho
  go_wp2_with fail
  refine (within_any Ag sx.length cg sx As sm.length cs sm w21.heap.size _ (Nat.le_refl _) (HV21.out.get (by simp)) (HV21.out.get (by simp)) (by omega) (by omega) HRS.out).mono ?_
  rw [HWX.out]
  rintro e w22 ⟨rfl, hb⟩
  have HM22 : Hid (Ms w22 [(Aq, m), (Ak, m), (Ar, m), (Af, m), (Am, m), (Ay, y), (Ax, x), (By, y), (Bx, x)]) := HM21.out.keep hb
  clear HM21
  have HV22 : Hid (Vs w22 [(Ag, sx), (Av, sm), (Au, sm), (As, sm)]) := HV21.out.keep hb
  clear HV21
  have HT22 : Hid (Ts w22 [(Ai, l), (At, l), (A2, l)]) := HT21.out.keep hb
  clear HT21
  have HB22 : Hid (Below w.heap.size w w22) := HB21.out.trans (hb.mono HB21.out.size)
  clear HB21
  clear hb
  go_wp2_with fail
  refine (idTo_any A2 l.length c2 l w22.heap.size _ (Nat.le_refl _) (HT22.out.get (by simp)) (by omega)).mono ?_
  rintro e w23 ⟨Aj, cj, rfl, ho, hb⟩
  have hcj := rown_cap ho
  have HM23 : Hid (Ms w23 [(Aq, m), (Ak, m), (Ar, m), (Af, m), (Am, m), (Ay, y), (Ax, x), (By, y), (Bx, x)]) := HM22.out.keep hb
  clear HM22
  have HV23 : Hid (Vs w23 [(Ag, sx), (Av, sm), (Au, sm), (As, sm)]) := HV22.out.keep hb
  clear HV22
  have HT23 : Hid (Ts w23 [(Aj, l), (Ai, l), (At, l), (A2, l)]) := HT22.out.ownT ho hb
  clear HT22
  have HB23 : Hid (Below w.heap.size w w23) := HB22.out.trans (hb.mono HB22.out.size)
  clear HB22
  clear hb ho
  go_wp2_with fail
  refine (stableM_any Ay (List.length y) cy y Aj l.length cj l w23.heap.size _ (Nat.le_refl _) (HM23.out.get (by simp)) (HT23.out.get (by simp)) hcj (by omega) (by omega) Gy.out.1 (Gy.out.up Uy.out (by omega))).mono ?_
  rw [HSY.out]
  rintro e w24 ⟨Ah, ch, rfl, hch, ho, hb⟩
  have HM24 : Hid (Ms w24 [(Aq, m), (Ak, m), (Ar, m), (Af, m), (Am, m), (Ay, y), (Ax, x), (By, y), (Bx, x)]) := HM23.out.keep hb
  clear HM23
  have HV24 : Hid (Vs w24 [(Ah, sy), (Ag, sx), (Av, sm), (Au, sm), (As, sm)]) := HV23.out.own ho hb
  clear HV23
  have HT24 : Hid (Ts w24 [(Aj, l), (Ai, l), (At, l), (A2, l)]) := HT23.out.keep hb
  clear HT23
  have HB24 : Hid (Below w.heap.size w w24) := HB23.out.trans (hb.mono HB23.out.size)
  clear HB23
  clear hb ho
  go_wp2_with fail
  refine (within_any Ah sy.length ch sy As sm.length cs sm w24.heap.size _ (Nat.le_refl _) (HV24.out.get (by simp)) (HV24.out.get (by simp)) (by omega) (by omega) HRS.out).mono ?_
  rw [HWY.out]
  rintro e w25 ⟨rfl, hb⟩
  have HM25 : Hid (Ms w25 [(Aq, m), (Ak, m), (Ar, m), (Af, m), (Am, m), (Ay, y), (Ax, x), (By, y), (Bx, x)]) := HM24.out.keep hb
  clear HM24
  have HV25 : Hid (Vs w25 [(Ah, sy), (Ag, sx), (Av, sm), (Au, sm), (As, sm)]) := HV24.out.keep hb
  clear HV24
  have HT25 : Hid (Ts w25 [(Aj, l), (Ai, l), (At, l), (A2, l)]) := HT24.out.keep hb
  clear HT24
  have HB25 : Hid (Below w.heap.size w w25) := HB24.out.trans (hb.mono HB24.out.size)
  clear HB24
  clear hb
  go_wp2
  go_ret
  exact ⟨rfl, HB25.out⟩
end Go.Proofs.Ytbbcifcdimfdgaa
