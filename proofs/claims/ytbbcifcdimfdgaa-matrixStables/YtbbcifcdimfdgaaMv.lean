/- The law MatrixStables walked. -/
import Derived.Test.YtbbcifcdimfdgaaMu
import Derived.Test.YtbbcifcdimfdgaaUd
namespace Go.Proofs.Ytbbcifcdimfdgaa
open Go.RowKit

theorem foldl_le {m : Mat} (hm : GoodM m) (c : Int) (a : ByteArray) : ∀ (r : List ByteArray) {v : List At}, Good v → (c ≤ ofF (r.foldl (fun v b => meetF v (mOf m b)) v) a ↔ c ≤ ofF v a ∧ ∀ b ∈ r, c ≤ ofF (mOf m b) a)
  | [], _, _ => by simp
  | b :: r, v, hv => by
    rw [List.foldl_cons, foldl_le hm c a r (hv.meet _), ofF_meet hv.1 hv.pos (hm.of b).pos]
    simp only [List.mem_cons, forall_eq_or_imp]
    constructor
    · rintro ⟨h1, h2⟩; exact ⟨by omega, by omega, h2⟩
    · rintro ⟨h1, h2, h3⟩; exact ⟨by omega, h3⟩
theorem stable_le {m : Mat} (hm : GoodM m) (c : Int) (a : ByteArray) {l : List ByteArray} (hl : l ≠ []) : c ≤ ofF (stableF m l) a ↔ ∀ b ∈ l, c ≤ ofF (mOf m b) a := by
  cases l with
  | nil => exact absurd rfl hl
  | cons b r =>
    show c ≤ ofF (r.foldl (fun v b => meetF v (mOf m b)) (mOf m b)) a ↔ _
    rw [foldl_le hm c a r (hm.of b)]
    simp only [List.mem_cons, forall_eq_or_imp]
theorem stable_each {m : Mat} (hm : GoodM m) {l : List ByteArray} {b : ByteArray} (hb : b ∈ l) : withinF (stableF m l) (mOf m b) = true := by
  rw [within_iff (stableF_good hm l).1 (hm.of b).pos]
  intro a
  exact (stable_le hm _ a (fun e => by rw [e] at hb; simp at hb)).mp (Int.le_refl _) b hb
theorem stable_more {m : Mat} (hm : GoodM m) {l l2 : List ByteArray} (hl : l ≠ []) (h : ∀ b ∈ l, b ∈ l2) : withinF (stableF m l2) (stableF m l) = true := by
  rw [within_iff (stableF_good hm l2).1 (stableF_good hm l).pos]
  intro a
  have h2 : l2 ≠ [] := fun e => by
    cases l with
    | nil => exact hl rfl
    | cons b r => have := h b (by simp); rw [e] at this; simp at this
  rw [stable_le hm _ a hl]
  intro b hb
  exact (stable_le hm _ a h2).mp (Int.le_refl _) b (h b hb)
set_option maxRecDepth 100000 in
set_option maxHeartbeats 16000000 in
theorem matrixStables_walk (A0 : Option Addr) (n0 c0 : Nat) (z0 : Mat) (A1 : Option Addr) (n1 c1 : Nat) (z1 : List ByteArray) (A2 : Option Addr) (n2 c2 : Nat) (z2 : List ByteArray) (w : World) (hz0 : MatAt w w.heap.size A0 n0 z0) (_hc0 : n0 ≤ c0) (_hs0 : ShortM z0) (_hn0 : c0 ≤ 9223372036854775807) (hz1 : RowAt cellsT 1 w w.heap.size A1 n1 z1) (hc1 : n1 ≤ c1) (hs1 : ∀ s ∈ z1, s.size ≤ 9223372036854775807) (_hn1 : c1 ≤ 9223372036854775807) (hz2 : RowAt cellsT 1 w w.heap.size A2 n2 z2) (hc2 : n2 ≤ c2) (hs2 : ∀ s ∈ z2, s.size ≤ 9223372036854775807) (_hn2 : c2 ≤ 9223372036854775807) :
    Calls Try.prog 6 #[.slice A0 n0 c0, .slice A1 n1 c1, .slice A2 n2 c2] w fun e w' => e = .returned (.bool true) ∧ Below w.heap.size w w' := by
  obtain ⟨m1, hm1⟩ : ∃ m : Nat, (if 8 < (n1 : Int) then (8 : Int) else n1) = m := ⟨min n1 8, by split <;> omega⟩
  have hmn1 : m1 ≤ n1 := by split at hm1 <;> omega
  have hm81 : m1 ≤ 8 := by split at hm1 <;> omega
  have hq1 : min (n1 : Int) 8 = m1 := by split at hm1 <;> omega
  clear hm1
  have hu1 := cutS_upto A1 n1 c1 m1 hmn1 hc1
  have HRL1 := Lib.hid (hz1.take hmn1)
  have HSL1 : Hid (∀ s ∈ z1.take m1, s.size ≤ 9223372036854775807) := fun s hs => hs1 s (List.mem_of_mem_take hs)
  generalize z1.take m1 = l1 at *
  have hll1 := HRL1.out.1
  obtain ⟨m2, hm2⟩ : ∃ m : Nat, (if 8 < (n2 : Int) then (8 : Int) else n2) = m := ⟨min n2 8, by split <;> omega⟩
  have hmn2 : m2 ≤ n2 := by split at hm2 <;> omega
  have hm82 : m2 ≤ 8 := by split at hm2 <;> omega
  have hq2 : min (n2 : Int) 8 = m2 := by split at hm2 <;> omega
  clear hm2
  have hu2 := cutS_upto A2 n2 c2 m2 hmn2 hc2
  have HRL2 := Lib.hid (hz2.take hmn2)
  have HSL2 : Hid (∀ s ∈ z2.take m2, s.size ≤ 9223372036854775807) := fun s hs => hs2 s (List.mem_of_mem_take hs)
  generalize z2.take m2 = l2 at *
  have hll2 := HRL2.out.1
  have HT0 : Hid (Ts w [(A1, l1), (A2, l2)]) := fun t ht => by
    rcases List.mem_cons.mp ht with e | e
    · subst e; show RowAt _ _ _ _ _ l1.length _; rw [hll1]; exact HRL1.out
    · simp at e; subst e; show RowAt _ _ _ _ _ l2.length _; rw [hll2]; exact HRL2.out
  have HZ0 := Lib.hid hz0
  subst hll1 hll2
  have hLu := unionF_len l1
  obtain ⟨L, hL⟩ : ∃ L, unionF l1 = L := ⟨_, rfl⟩
  have HSLL : Hid (∀ s ∈ L ++ l2, s.size ≤ 9223372036854775807) := fun s hs => by
    rcases List.mem_append.mp hs with h | h
    · rw [← hL] at h; exact HSL1.out s (((unionF_is l1).2 s).mp h)
    · exact HSL2.out s h
  have hLv := unionF_len (L ++ l2)
  obtain ⟨K, hK⟩ : ∃ K, unionF (L ++ l2) = K := ⟨_, rfl⟩
  have HLK : Hid (∀ b ∈ L, b ∈ K) := fun b hb => by rw [← hK]; exact ((unionF_is _).2 b).mpr (by simp [hb])
  rw [hL] at hLu
  rw [hK, List.length_append] at hLv
  have HLL : Hid (unionF (l1 ++ []) = L) := by show _ = _; rw [List.append_nil]; exact hL
  have HKK := Lib.hid hK
  clear hz0 _hc0 _hs0 _hn0 hz1 hs1 _hn1 hz2 hs2 _hn2 HRL1 HRL2 hL hK
  go_enter Try.func6, Try.ntmps6
  go_wp2_with fail
  refine (rfixM_any A0 n0 c0 z0 w.heap.size _ (Nat.le_refl _) HZ0.out).mono ?_
  rintro e w1 ⟨m, gm, lm, um, Bm, dm, rfl, ho, hb⟩
  have hdm := ho.cap
  have Gm := Lib.hid gm
  have Um := Lib.hid um
  clear gm um
  have HM1 : Hid (Ms w1 [(Bm, m)]) := (Ms.nil _).ownM ho hb
  have HT1 : Hid (Ts w1 [(A1, l1), (A2, l2)]) := HT0.out.keep hb
  clear HT0
  have HB1 : Hid (Below w.heap.size w w1) := hb
  clear hb ho
  have lsm := stableF_len Um.out L
  have lsk := stableF_len Um.out K
  obtain ⟨sm, hsm⟩ : ∃ s, stableF m L = s := ⟨_, rfl⟩
  obtain ⟨sk, hsk⟩ : ∃ s, stableF m K = s := ⟨_, rfl⟩
  have Gs : Hid (Good sm) := by show Good sm; rw [← hsm]; exact stableF_good Gm.out L
  have HEA : Hid (∀ b ∈ L, withinF sm (mOf m b) = true) := fun b hb => by rw [← hsm]; exact stable_each Gm.out hb
  have HMO : Hid (L ≠ [] → withinF sk sm = true) := fun hne => by rw [← hsm, ← hsk]; exact stable_more Gm.out hne HLK.out
  have HNO : Hid (L = [] → sm = []) := fun e => by rw [← hsm, e]; rfl
  rw [hsm] at lsm
  rw [hsk] at lsk
  have HSM := Lib.hid hsm
  have HSK := Lib.hid hsk
  have RS := good_right Gs.out
  clear hsm hsk
  go_wp2_with fail
  refine (runion_any A1 l1.length c1 l1 none 0 0 [] w1.heap.size _ (Nat.le_refl _) (HT1.out.get (by simp)) RowAt.nil (by omega) (fun s hs => HSL1.out s (by simpa using hs))).mono ?_
  rw [HLL.out]
  rintro e w2 ⟨Al, cl, rfl, ho, hb⟩
  have hcl := rown_cap ho
  have HM2 : Hid (Ms w2 [(Bm, m)]) := HM1.out.keep hb
  clear HM1
  have HT2 : Hid (Ts w2 [(Al, L), (A1, l1), (A2, l2)]) := HT1.out.ownT ho hb
  clear HT1
  have HB2 : Hid (Below w.heap.size w w2) := HB1.out.trans (hb.mono HB1.out.size)
  clear HB1
  clear hb ho
  go_wp2_with fail
  refine (toM_any Bm (List.length m) dm m w2.heap.size _ (Nat.le_refl _) (HM2.out.get (by simp)) (by omega) (fun x hx => by have := Um.out x hx; omega)).mono ?_
  rintro e w3 ⟨Ax, cx, rfl, ho, hb⟩
  have hcx := ho.cap
  have HM3 : Hid (Ms w3 [(Ax, m), (Bm, m)]) := HM2.out.ownM ho hb
  clear HM2
  have HT3 : Hid (Ts w3 [(Al, L), (A1, l1), (A2, l2)]) := HT2.out.keep hb
  clear HT2
  have HB3 : Hid (Below w.heap.size w w3) := HB2.out.trans (hb.mono HB2.out.size)
  clear HB2
  clear hb ho
  go_wp2_with fail
  refine (idTo_any Al L.length cl L w3.heap.size _ (Nat.le_refl _) (HT3.out.get (by simp)) (by omega)).mono ?_
  rintro e w4 ⟨At, ct, rfl, ho, hb⟩
  have hct := rown_cap ho
  have HM4 : Hid (Ms w4 [(Ax, m), (Bm, m)]) := HM3.out.keep hb
  clear HM3
  have HT4 : Hid (Ts w4 [(At, L), (Al, L), (A1, l1), (A2, l2)]) := HT3.out.ownT ho hb
  clear HT3
  have HB4 : Hid (Below w.heap.size w w4) := HB3.out.trans (hb.mono HB3.out.size)
  clear HB3
  clear hb ho
  go_wp2_with fail
  refine (stableM_any Ax (List.length m) cx m At L.length ct L w4.heap.size _ (Nat.le_refl _) (HM4.out.get (by simp)) (HT4.out.get (by simp)) hct (by omega) (by omega) Gm.out.1 (Gm.out.up Um.out (by omega))).mono ?_
  rw [HSM.out]
  rintro e w5 ⟨As, cs, rfl, hcs, ho, hb⟩
  have HM5 : Hid (Ms w5 [(Ax, m), (Bm, m)]) := HM4.out.keep hb
  clear HM4
  have HV5 : Hid (Vs w5 [(As, sm)]) := (Vs.nil _).own ho hb
  have HT5 : Hid (Ts w5 [(At, L), (Al, L), (A1, l1), (A2, l2)]) := HT4.out.keep hb
  clear HT4
  have HB5 : Hid (Below w.heap.size w w5) := HB4.out.trans (hb.mono HB4.out.size)
  clear HB4
  clear hb ho
  go_wp2_with fail
  refine (runion_any Al L.length cl L A2 l2.length c2 l2 w5.heap.size _ (Nat.le_refl _) (HT5.out.get (by simp)) (HT5.out.get (by simp)) (by omega) HSLL.out).mono ?_
  rw [HKK.out]
  rintro e w6 ⟨Ak, ck, rfl, ho, hb⟩
  have hck := rown_cap ho
  have HM6 : Hid (Ms w6 [(Ax, m), (Bm, m)]) := HM5.out.keep hb
  clear HM5
  have HV6 : Hid (Vs w6 [(As, sm)]) := HV5.out.keep hb
  clear HV5
  have HT6 : Hid (Ts w6 [(Ak, K), (At, L), (Al, L), (A1, l1), (A2, l2)]) := HT5.out.ownT ho hb
  clear HT5
  have HB6 : Hid (Below w.heap.size w w6) := HB5.out.trans (hb.mono HB5.out.size)
  clear HB5
  clear hb ho
  go_wp2_with fail
  refine (idTo_any Ak K.length ck K w6.heap.size _ (Nat.le_refl _) (HT6.out.get (by simp)) (by omega)).mono ?_
  rintro e w7 ⟨Au, cu, rfl, ho, hb⟩
  have hcu := rown_cap ho
  have HM7 : Hid (Ms w7 [(Ax, m), (Bm, m)]) := HM6.out.keep hb
  clear HM6
  have HV7 : Hid (Vs w7 [(As, sm)]) := HV6.out.keep hb
  clear HV6
  have HT7 : Hid (Ts w7 [(Au, K), (Ak, K), (At, L), (Al, L), (A1, l1), (A2, l2)]) := HT6.out.ownT ho hb
  clear HT6
  have HB7 : Hid (Below w.heap.size w w7) := HB6.out.trans (hb.mono HB6.out.size)
  clear HB6
  clear hb ho
  go_wp2_with fail
  refine (stableM_any Ax (List.length m) cx m Au K.length cu K w7.heap.size _ (Nat.le_refl _) (HM7.out.get (by simp)) (HT7.out.get (by simp)) hcu (by omega) (by omega) Gm.out.1 (Gm.out.up Um.out (by omega))).mono ?_
  rw [HSK.out]
  rintro e w8 ⟨Av, cv, rfl, hcv, ho, hb⟩
  have HM8 : Hid (Ms w8 [(Ax, m), (Bm, m)]) := HM7.out.keep hb
  clear HM7
  have HV8 : Hid (Vs w8 [(Av, sk), (As, sm)]) := HV7.out.own ho hb
  clear HV7
  have HT8 : Hid (Ts w8 [(Au, K), (Ak, K), (At, L), (Al, L), (A1, l1), (A2, l2)]) := HT7.out.keep hb
  clear HT7
  have HB8 : Hid (Below w.heap.size w w8) := HB7.out.trans (hb.mono HB7.out.size)
  clear HB7
  clear hb ho
  go_wp2_with fail
  refine (mtold_any _).mono ?_
  rintro e w9 ⟨rfl, hb⟩
  have HM9 : Hid (Ms w9 [(Ax, m), (Bm, m)]) := HM8.out.keep hb
  clear HM8
  have HV9 : Hid (Vs w9 [(Av, sk), (As, sm)]) := HV8.out.keep hb
  clear HV8
  have HT9 : Hid (Ts w9 [(Au, K), (Ak, K), (At, L), (Al, L), (A1, l1), (A2, l2)]) := HT8.out.keep hb
  clear HT8
  have HB9 : Hid (Below w.heap.size w w9) := HB8.out.trans (hb.mono HB8.out.size)
  clear HB8
  clear hb
  go_wp2_with fail
  refine (from_any As sm.length cs sm w9.heap.size _ (Nat.le_refl _) (HV9.out.get (by simp)) (by omega)).mono ?_
  rintro e w10 ⟨Af, cf, rfl, hcf, ho, hb⟩
  have HM10 : Hid (Ms w10 [(Ax, m), (Bm, m)]) := HM9.out.keep hb
  clear HM9
  have HV10 : Hid (Vs w10 [(Af, sm), (Av, sk), (As, sm)]) := HV9.out.own ho hb
  clear HV9
  have HT10 : Hid (Ts w10 [(Au, K), (Ak, K), (At, L), (Al, L), (A1, l1), (A2, l2)]) := HT9.out.keep hb
  clear HT9
  have HB10 : Hid (Below w.heap.size w w10) := HB9.out.trans (hb.mono HB9.out.size)
  clear HB9
  clear hb ho
  go_wp2_with fail
  refine (rstableM_any Bm (List.length m) dm m Al L.length cl L w10.heap.size _ (Nat.le_refl _) (HM10.out.get (by simp)) (HT10.out.get (by simp)) (by omega) (by omega) Gm.out (fun x hx => by have := Um.out x hx; omega)).mono ?_
  rw [HSM.out]
  rintro e w11 ⟨Ar, cr, rfl, hcr, ho, hb⟩
  have HM11 : Hid (Ms w11 [(Ax, m), (Bm, m)]) := HM10.out.keep hb
  clear HM10
  have HV11 : Hid (Vs w11 [(Ar, sm), (Af, sm), (Av, sk), (As, sm)]) := HV10.out.own ho hb
  clear HV10
  have HT11 : Hid (Ts w11 [(Au, K), (Ak, K), (At, L), (Al, L), (A1, l1), (A2, l2)]) := HT10.out.keep hb
  clear HT10
  have HB11 : Hid (Below w.heap.size w w11) := HB10.out.trans (hb.mono HB10.out.size)
  clear HB10
  clear hb ho
  go_wp2_with fail
  refine (rsame_any Af sm.length cf sm Ar sm.length cr sm w11.heap.size _ (HV11.out.get (by simp)) (HV11.out.get (by simp)) (by omega) (by omega)).mono ?_
  rw [same_self]
  rintro e w12 ⟨rfl, hd⟩
  have hb := drawn_below hd.out w11.heap.size
  clear hd
  have HM12 : Hid (Ms w12 [(Ax, m), (Bm, m)]) := HM11.out.keep hb
  clear HM11
  have HV12 : Hid (Vs w12 [(Ar, sm), (Af, sm), (Av, sk), (As, sm)]) := HV11.out.keep hb
  clear HV11
  have HT12 : Hid (Ts w12 [(Au, K), (Ak, K), (At, L), (Al, L), (A1, l1), (A2, l2)]) := HT11.out.keep hb
  clear HT11
  have HB12 : Hid (Below w.heap.size w w12) := HB11.out.trans (hb.mono HB11.out.size)
  clear HB11
  clear hb
  go_wp2_with fail
  refine (rightv_any As sm.length cs sm w12.heap.size _ (Nat.le_refl _) (HV12.out.get (by simp)) (by omega)).mono ?_
  rw [RS.out]
  rintro e w13 ⟨rfl, hb⟩
  have HM13 : Hid (Ms w13 [(Ax, m), (Bm, m)]) := HM12.out.keep hb
  clear HM12
  have HV13 : Hid (Vs w13 [(Ar, sm), (Af, sm), (Av, sk), (As, sm)]) := HV12.out.keep hb
  clear HV12
  have HT13 : Hid (Ts w13 [(Au, K), (Ak, K), (At, L), (Al, L), (A1, l1), (A2, l2)]) := HT12.out.keep hb
  clear HT12
  have HB13 : Hid (Below w.heap.size w w13) := HB12.out.trans (hb.mono HB12.out.size)
  clear HB12
  clear hb
  go_wp2
  go_loopw [10] (fun i wr => ∃ k : Nat, k ≤ L.length ∧ i = .int .i64 k ∧ Hid (Ms wr [(Ax, m), (Bm, m)]) ∧ Hid (Vs wr [(Ar, sm), (Af, sm), (Av, sk), (As, sm)]) ∧ Hid (Ts wr [(Au, K), (Ak, K), (At, L), (Al, L), (A1, l1), (A2, l2)]) ∧ Hid (Below w.heap.size w wr)) (fun i _ => L.length - (intOf i).toNat)
  case atStart => exact ⟨0, by omega, rfl, HM13, HV13, HT13, HB13⟩
  case round =>
    clear HM13 HV13 HT13 HB13
    obtain ⟨k, hk, rfl, HMS, HVS, HTS, HB⟩ := hrel
    by_cases hlt : k < L.length
    · obtain ⟨blk, off, a, e, hbB, hak, hc⟩ := (show RowAt cellsT 1 wr wr.heap.size Al L.length L from HTS.out.get (by simp)).text (Below.refl _ _) hlt
      have hi1 : (k : Int) < (L.length : Int) := by omega
      have HWI := Lib.hid (HEA.out a (List.mem_of_getElem? hak))
      have hlo := Um.out.of a
      have HRO := Lib.hid (Gm.out.of a).1
      subst e
      obtain ⟨o, ho⟩ : ∃ o, mOf m a = o := ⟨_, rfl⟩
      rw [ho] at HWI hlo HRO
      have HOO := Lib.hid ho
      clear ho hak
      go_wp2_with fail
      refine (ofM_any Ax (List.length m) cx m a wr.heap.size _ (Nat.le_refl _) (HMS.out.get (by simp)) (by omega) Gm.out.1 (by rw [HOO.out]; omega)).mono ?_
      rw [HOO.out]
      rintro e u1 ⟨A5, c5, rfl, hc5, ho, hb⟩
      have HV5 := Lib.hid (own_vec ho)
      replace HMS := Lib.hid (HMS.out.keep hb)
      replace HVS := Lib.hid (HVS.out.keep hb)
      replace HTS := Lib.hid (HTS.out.keep hb)
      replace HB := Lib.hid (HB.out.trans (hb.mono HB.out.size))
      clear ho hb hc
      go_wp2_with fail
      refine (within_any As sm.length cs sm A5 o.length c5 o u1.heap.size _ (Nat.le_refl _) (HVS.out.get (by simp)) HV5.out (by omega) (by omega) HRO.out).mono ?_
      rw [HWI.out]
      rintro e u2 ⟨rfl, hb⟩
      replace HMS := Lib.hid (HMS.out.keep hb)
      replace HVS := Lib.hid (HVS.out.keep hb)
      replace HTS := Lib.hid (HTS.out.keep hb)
      replace HB := Lib.hid (HB.out.trans (hb.mono HB.out.size))
      clear hb HV5
      go_wp2_with fail
      go_roundw
      case rel => exact ⟨k + 1, by omega, by go_num, HMS, HVS, HTS, HB⟩
      case measure => simp [intOf]; omega
    · rcases Nat.eq_zero_or_pos L.length with h0 | h0
      · have hs0 : sm.length = 0 := by rw [HNO.out (List.eq_nil_of_length_eq_zero h0)]; rfl
        generalize L.length = LL at *
        generalize sm.length = SL at *
        subst h0 hs0
        have hkl : ¬ ((k : Int) < 0) := by omega
        go_wp2
        go_ret
        exact ⟨rfl, HB.out⟩
      · have HWK := Lib.hid (HMO.out (fun e => by rw [e] at h0; simp at h0))
        have hl1 : ((L.length : Int) == 0) = false := by rw [beq_eq_false_iff_ne]; omega
        have hl2 : (0 : Int) < (L.length : Int) := by omega
        have hkl : ¬ ((k : Int) < (L.length : Int)) := by omega
        go_wp2_with fail
        refine (within_any Av sk.length cv sk As sm.length cs sm wr.heap.size _ (Nat.le_refl _) (HVS.out.get (by simp)) (HVS.out.get (by simp)) (by omega) (by omega) Gs.out.1).mono ?_
        rw [HWK.out]
        rintro e u1 ⟨rfl, hb⟩
        replace HB := Lib.hid (HB.out.trans (hb.mono HB.out.size))
        clear hb
        go_wp2
        go_ret
        exact ⟨rfl, HB.out⟩
end Go.Proofs.Ytbbcifcdimfdgaa
