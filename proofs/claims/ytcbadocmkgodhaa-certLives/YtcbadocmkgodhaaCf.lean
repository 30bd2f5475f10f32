/- The law CertLives walked. -/
import Derived.Test.YtcbadocmkgodhaaCc
import Derived.Test.YtcbadocmkgodhaaUf
namespace Go.Proofs.Ytcbadocmkgodhaa
open Go.RowKit

theorem gone_join {xs ys : List At} (hx : Good xs) (hy : Good ys) (a : ByteArray) : goneF (joinF xs ys) a = (goneF xs a || goneF ys a) := by
  unfold goneF
  rw [ofF_join hx.1 hy.1 hx.pos hy.pos]
  rw [Bool.eq_iff_iff, Bool.or_eq_true, decide_eq_true_iff, decide_eq_true_iff, decide_eq_true_iff]
  omega
theorem live_less {zs : List ByteArray} {xs ys : List At} (hx : Good xs) (hy : Good ys) (s : ByteArray) (h : s ∈ unionF (liveF zs (joinF xs ys))) : hasT (unionF (liveF zs xs)) s = true := by
  rw [hasT_iff, (unionF_is _).2]
  have h1 := ((unionF_is _).2 s).mp h
  simp only [liveF, List.mem_filter, gone_join hx hy, Bool.not_eq_true', Bool.or_eq_false_iff] at h1 ⊢
  exact ⟨h1.1, h1.2.1⟩

set_option maxRecDepth 100000 in
set_option maxHeartbeats 16000000 in
theorem certLives_walk (A0 : Option Addr) (n0 c0 : Nat) (z0 : List ByteArray) (A1 : Option Addr) (n1 c1 : Nat) (z1 : List At) (A2 : Option Addr) (n2 c2 : Nat) (z2 : List At) (w : World) (hz0 : RowAt cellsT 1 w w.heap.size A0 n0 z0) (hc0 : n0 ≤ c0) (hs0 : ∀ s ∈ z0, s.size ≤ 9223372036854775807) (hn0 : c0 ≤ 9223372036854775807) (hz1 : VecAt w w.heap.size A1 n1 z1) (_hc1 : n1 ≤ c1) (_hs1 : Short z1) (_hn1 : n1 ≤ 9223372036854775807) (hz2 : VecAt w w.heap.size A2 n2 z2) (_hc2 : n2 ≤ c2) (_hs2 : Short z2) (_hn2 : n2 ≤ 9223372036854775807) :
    Calls Try.prog 5 #[.slice A0 n0 c0, .slice A1 n1 c1, .slice A2 n2 c2] w fun e w' => e = .returned (.bool true) ∧ Below w.heap.size w w' := by
  have HZ1 := Lib.hid hz1
  have HZ2 := Lib.hid hz2
  obtain ⟨m, hm⟩ : ∃ m : Nat, min (n0 : Int) 20 = m := ⟨min n0 20, by omega⟩
  have hm0 : m ≤ n0 := by omega
  have hm1 : m ≤ 20 := by omega
  have HU0 := Lib.hid (runion_any A0 m c0 (z0.take m) none 0 0 [] w.heap.size w (Nat.le_refl _) (hz0.take hm0) RowAt.nil (by omega) (fun s hs => hs0 s (List.mem_of_mem_take (by simpa using hs))))
  rw [List.append_nil] at HU0
  have hlu := unionF_len (z0.take m)
  rw [List.length_take] at hlu
  have hsu : ∀ s ∈ unionF (z0.take m), s.size ≤ 9223372036854775807 := fun s hs => hs0 s (List.mem_of_mem_take (((unionF_is _).2 s).mp hs))
  generalize unionF (z0.take m) = ms at *
  have HSU := Lib.hid hsu
  have lms : ms.length ≤ 20 := by omega
  clear hz0 hs0 hz1 _hc1 _hs1 _hn1 hz2 _hc2 _hs2 _hn2 hsu hlu
  go_enter Try.func5, Try.ntmps5
  go_wp2_with fail
  refine (HU0.out).mono ?_
  rintro e w1 ⟨Am, cm, rfl, ho, hb⟩
  have HT1 : Hid (Ts w1 [(Am, ms)]) := (Ts.nil _).ownT ho hb
  have HB1 : Hid (Below w.heap.size w w1) := hb
  clear ho hb
  clear HU0
  go_wp2_with fail
  refine (fixv_any A1 n1 c1 z1 w.heap.size _ HB1.out.size (HZ1.out.keep HB1.out)).mono ?_
  rintro e w2 ⟨v, gv, lv, Bv, dv, rfl, hdv, ho, hb⟩
  have Gv := Lib.hid gv
  clear gv
  have HT2 : Hid (Ts w2 [(Am, ms)]) := HT1.out.keep hb
  clear HT1
  have HV2 : Hid (Vs w2 [(Bv, v)]) := Vs.own (Vs.nil _) ho hb
  have HB2 : Hid (Below w.heap.size w w2) := HB1.out.trans (hb.mono HB1.out.size)
  clear ho hb
  go_wp2_with fail
  refine (fixv_any A2 n2 c2 z2 w.heap.size _ HB2.out.size (HZ2.out.keep HB2.out)).mono ?_
  rintro e w3 ⟨u, gu, lu, Bu, du, rfl, hdu, ho, hb⟩
  have Gu := Lib.hid gu
  clear gu
  have HT3 : Hid (Ts w3 [(Am, ms)]) := HT2.out.keep hb
  clear HT2
  have HV3 : Hid (Vs w3 [(Bu, u), (Bv, v)]) := HV2.out.own ho hb
  have HB3 : Hid (Below w.heap.size w w3) := HB2.out.trans (hb.mono HB2.out.size)
  clear ho hb HV2
  obtain ⟨j, hj⟩ : ∃ j, joinF v u = j := ⟨_, rfl⟩
  have lj : j.length ≤ 24 := by rw [← hj]; have := join_len v u; omega
  have Gj : Hid (Good j) := by show Good j; rw [← hj]; exact Gv.out.join Gu.out
  have hlx := Nat.le_trans (unionF_len _) (live_len ms v)
  have hly := Nat.le_trans (unionF_len _) (live_len ms j)
  obtain ⟨xs, hxs⟩ : ∃ xs, unionF (liveF ms v) = xs := ⟨_, rfl⟩
  obtain ⟨ys, hys⟩ : ∃ ys, unionF (liveF ms j) = ys := ⟨_, rfl⟩
  have HLess : Hid (∀ s ∈ ys, hasT xs s = true) := by
    intro s hs
    rw [← hxs]
    rw [← hys, ← hj] at hs
    exact live_less Gv.out Gu.out s hs
  have HJ := Lib.hid hj
  have HX := Lib.hid hxs
  have HY := Lib.hid hys
  rw [hxs] at hlx
  rw [hys] at hly
  clear hj hxs hys
  go_wp2_with fail
  refine (idTo_any Am ms.length cm ms w3.heap.size _ (Nat.le_refl _) (HT3.out.get (by simp)) (by omega)).mono ?_
  rintro e w4 ⟨At1, ct1, rfl, ho, hb⟩
  have HT4 : Hid (Ts w4 [(At1, ms), (Am, ms)]) := HT3.out.ownT ho hb
  have HV4 : Hid (Vs w4 [(Bu, u), (Bv, v)]) := HV3.out.keep hb
  have HB4 : Hid (Below w.heap.size w w4) := HB3.out.trans (hb.mono HB3.out.size)
  clear ho hb HV3 HT3
  go_wp2_with fail
  refine (to_any Bv v.length dv v w4.heap.size _ (Nat.le_refl _) (HV4.out.get (by simp)) (by omega)).mono ?_
  rintro e w5 ⟨Av1, cv1, rfl, hcv1, ho, hb⟩
  have HT5 : Hid (Ts w5 [(At1, ms), (Am, ms)]) := HT4.out.keep hb
  clear HT4
  have HV5 : Hid (Vs w5 [(Av1, v), (Bu, u), (Bv, v)]) := HV4.out.own ho hb
  have HB5 : Hid (Below w.heap.size w w5) := HB4.out.trans (hb.mono HB4.out.size)
  clear ho hb HV4
  go_wp2_with fail
  refine (live_any At1 ms.length ct1 ms Av1 v.length cv1 v w5.heap.size _ (Nat.le_refl _) (HT5.out.get (by simp)) (HV5.out.get (by simp)) (by omega) (by omega) Gv.out.1).mono ?_
  rw [HX.out]
  rintro e w6 ⟨Al1, cl1, rfl, ho, hb⟩
  have HT6 : Hid (Ts w6 [(Al1, xs), (At1, ms), (Am, ms)]) := HT5.out.ownT ho hb
  have HV6 : Hid (Vs w6 [(Av1, v), (Bu, u), (Bv, v)]) := HV5.out.keep hb
  have HB6 : Hid (Below w.heap.size w w6) := HB5.out.trans (hb.mono HB5.out.size)
  clear ho hb HV5 HT5
  go_wp2_with fail
  refine (idFrom_any Al1 xs.length cl1 xs w6.heap.size _ (Nat.le_refl _) (HT6.out.get (by simp)) (by omega)).mono ?_
  rintro e w7 ⟨Ax, cx, rfl, ho, hb⟩
  have HT7 : Hid (Ts w7 [(Ax, xs), (Al1, xs), (At1, ms), (Am, ms)]) := HT6.out.ownT ho hb
  have HV7 : Hid (Vs w7 [(Av1, v), (Bu, u), (Bv, v)]) := HV6.out.keep hb
  have HB7 : Hid (Below w.heap.size w w7) := HB6.out.trans (hb.mono HB6.out.size)
  clear ho hb HV6 HT6
  go_wp2_with fail
  refine (idTo_any Am ms.length cm ms w7.heap.size _ (Nat.le_refl _) (HT7.out.get (by simp)) (by omega)).mono ?_
  rintro e w8 ⟨At2, ct2, rfl, ho, hb⟩
  have HT8 : Hid (Ts w8 [(At2, ms), (Ax, xs), (Al1, xs), (At1, ms), (Am, ms)]) := HT7.out.ownT ho hb
  have HV8 : Hid (Vs w8 [(Av1, v), (Bu, u), (Bv, v)]) := HV7.out.keep hb
  have HB8 : Hid (Below w.heap.size w w8) := HB7.out.trans (hb.mono HB7.out.size)
  clear ho hb HV7 HT7
  go_wp2_with fail
  refine (to_any Bv v.length dv v w8.heap.size _ (Nat.le_refl _) (HV8.out.get (by simp)) (by omega)).mono ?_
  rintro e w9 ⟨Av2, cv2, rfl, hcv2, ho, hb⟩
  have HT9 : Hid (Ts w9 [(At2, ms), (Ax, xs), (Al1, xs), (At1, ms), (Am, ms)]) := HT8.out.keep hb
  clear HT8
  have HV9 : Hid (Vs w9 [(Av2, v), (Av1, v), (Bu, u), (Bv, v)]) := HV8.out.own ho hb
  have HB9 : Hid (Below w.heap.size w w9) := HB8.out.trans (hb.mono HB8.out.size)
  clear ho hb HV8
  go_wp2_with fail
  refine (to_any Bu u.length du u w9.heap.size _ (Nat.le_refl _) (HV9.out.get (by simp)) (by omega)).mono ?_
  rintro e w10 ⟨Au2, cu2, rfl, hcu2, ho, hb⟩
  have HT10 : Hid (Ts w10 [(At2, ms), (Ax, xs), (Al1, xs), (At1, ms), (Am, ms)]) := HT9.out.keep hb
  clear HT9
  have HV10 : Hid (Vs w10 [(Au2, u), (Av2, v), (Av1, v), (Bu, u), (Bv, v)]) := HV9.out.own ho hb
  have HB10 : Hid (Below w.heap.size w w10) := HB9.out.trans (hb.mono HB9.out.size)
  clear ho hb HV9
  go_wp2_with fail
  refine (merge_any Av2 v.length cv2 v Au2 u.length cu2 u w10.heap.size _ (Nat.le_refl _) (HV10.out.get (by simp)) (HV10.out.get (by simp)) hcv2 hcu2 (by omega) (by omega)).mono ?_
  rw [HJ.out]
  rintro e w11 ⟨Aj, cj, rfl, hcj, ho, hb⟩
  have HT11 : Hid (Ts w11 [(At2, ms), (Ax, xs), (Al1, xs), (At1, ms), (Am, ms)]) := HT10.out.keep hb
  clear HT10
  have HV11 : Hid (Vs w11 [(Aj, j), (Au2, u), (Av2, v), (Av1, v), (Bu, u), (Bv, v)]) := HV10.out.own ho hb
  have HB11 : Hid (Below w.heap.size w w11) := HB10.out.trans (hb.mono HB10.out.size)
  clear ho hb HV10
  go_wp2_with fail
  refine (live_any At2 ms.length ct2 ms Aj j.length cj j w11.heap.size _ (Nat.le_refl _) (HT11.out.get (by simp)) (HV11.out.get (by simp)) (by omega) (by omega) Gj.out.1).mono ?_
  rw [HY.out]
  rintro e w12 ⟨Al2, cl2, rfl, ho, hb⟩
  have HT12 : Hid (Ts w12 [(Al2, ys), (At2, ms), (Ax, xs), (Al1, xs), (At1, ms), (Am, ms)]) := HT11.out.ownT ho hb
  have HV12 : Hid (Vs w12 [(Aj, j), (Au2, u), (Av2, v), (Av1, v), (Bu, u), (Bv, v)]) := HV11.out.keep hb
  have HB12 : Hid (Below w.heap.size w w12) := HB11.out.trans (hb.mono HB11.out.size)
  clear ho hb HV11 HT11
  go_wp2_with fail
  refine (idFrom_any Al2 ys.length cl2 ys w12.heap.size _ (Nat.le_refl _) (HT12.out.get (by simp)) (by omega)).mono ?_
  rintro e w13 ⟨Ay, cy, rfl, ho, hb⟩
  have HT13 : Hid (Ts w13 [(Ay, ys), (Al2, ys), (At2, ms), (Ax, xs), (Al1, xs), (At1, ms), (Am, ms)]) := HT12.out.ownT ho hb
  have HV13 : Hid (Vs w13 [(Aj, j), (Au2, u), (Av2, v), (Av1, v), (Bu, u), (Bv, v)]) := HV12.out.keep hb
  have HB13 : Hid (Below w.heap.size w w13) := HB12.out.trans (hb.mono HB12.out.size)
  clear ho hb HV12 HT12
  go_wp2_with fail
  go_loop [9] (fun i => ∃ k : Nat, k ≤ ys.length ∧ i = .int .i64 k) (fun i => ys.length - (intOf i).toNat)
  case atStart => exact ⟨0, by omega, rfl⟩
  case round =>
    obtain ⟨k, hk, rfl⟩ := hrel
    by_cases hlt : k < ys.length
    · obtain ⟨blk, off, s, rfl, hbB, hzk, hc⟩ := (show RowAt cellsT 1 w13 w13.heap.size Ay ys.length ys from (HT13.out.get (by simp))).text (Below.refl _ _) hlt
      have HHS := Lib.hid (HLess.out s (List.mem_of_getElem? hzk))
      have hi1 : (k : Int) < (ys.length : Int) := by omega
      clear hzk
      go_wp2_with (go_at_call 26; refine (rhas_is Ax xs.length cx xs s w13.heap.size true HHS _ (HT13.out.get (by simp)) (by omega)).mono ?_; rintro e w' ⟨rfl, rfl⟩)
      go_round
      case rel => exact ⟨k + 1, by omega, by go_num⟩
      case measure => simp [intOf]; omega
    · skip
      go_wp2_with fail
      refine (ctold_any _).mono ?_
      rintro e w14 ⟨rfl, hb⟩
      have HT14 : Hid (Ts w14 [(Ay, ys), (Al2, ys), (At2, ms), (Ax, xs), (Al1, xs), (At1, ms), (Am, ms)]) := HT13.out.keep hb
      clear HT13
      have HV14 : Hid (Vs w14 [(Aj, j), (Au2, u), (Av2, v), (Av1, v), (Bu, u), (Bv, v)]) := HV13.out.keep hb
      clear HV13
      have HB14 : Hid (Below w.heap.size w w14) := HB13.out.trans (hb.mono HB13.out.size)
      clear hb
      go_wp2_with fail
      refine (rlive_any Am ms.length cm ms Bv v.length dv v w14.heap.size _ (Nat.le_refl _) (HT14.out.get (by simp)) (HV14.out.get (by simp)) (by omega) (by omega) HSU.out).mono ?_
      rw [HX.out]
      rintro e w15 ⟨Ar1, cr1, rfl, ho, hb⟩
      have HT15 : Hid (Ts w15 [(Ar1, xs), (Ay, ys), (Al2, ys), (At2, ms), (Ax, xs), (Al1, xs), (At1, ms), (Am, ms)]) := HT14.out.ownT ho hb
      have HV15 : Hid (Vs w15 [(Aj, j), (Au2, u), (Av2, v), (Av1, v), (Bu, u), (Bv, v)]) := HV14.out.keep hb
      have HB15 : Hid (Below w.heap.size w w15) := HB14.out.trans (hb.mono HB14.out.size)
      clear ho hb HV14 HT14
      go_wp2_with fail
      refine (rsameT_any Ax xs.length cx xs Ar1 xs.length cr1 xs w15.heap.size _ (HT15.out.get (by simp)) (HT15.out.get (by simp)) (by omega) (by omega)).mono ?_
      rw [sameT_self]
      rintro e w16 ⟨rfl, hd⟩
      have hb := drawn_below hd.out w15.heap.size
      clear hd
      have HT16 : Hid (Ts w16 [(Ar1, xs), (Ay, ys), (Al2, ys), (At2, ms), (Ax, xs), (Al1, xs), (At1, ms), (Am, ms)]) := HT15.out.keep hb
      clear HT15
      have HV16 : Hid (Vs w16 [(Aj, j), (Au2, u), (Av2, v), (Av1, v), (Bu, u), (Bv, v)]) := HV15.out.keep hb
      clear HV15
      have HB16 : Hid (Below w.heap.size w w16) := HB15.out.trans (hb.mono HB15.out.size)
      clear hb
      go_wp2_with fail
      refine (rjoin_any Bv v.length dv v Bu u.length du u w16.heap.size _ (Nat.le_refl _) (HV16.out.get (by simp)) (HV16.out.get (by simp)) (by omega) (by omega) Gv.out Gu.out).mono ?_
      rw [HJ.out]
      rintro e w17 ⟨Arj, crj, rfl, hcrj, ho, hb⟩
      have HT17 : Hid (Ts w17 [(Ar1, xs), (Ay, ys), (Al2, ys), (At2, ms), (Ax, xs), (Al1, xs), (At1, ms), (Am, ms)]) := HT16.out.keep hb
      clear HT16
      have HV17 : Hid (Vs w17 [(Arj, j), (Aj, j), (Au2, u), (Av2, v), (Av1, v), (Bu, u), (Bv, v)]) := HV16.out.own ho hb
      have HB17 : Hid (Below w.heap.size w w17) := HB16.out.trans (hb.mono HB16.out.size)
      clear ho hb HV16
      go_wp2_with fail
      refine (rlive_any Am ms.length cm ms Arj j.length crj j w17.heap.size _ (Nat.le_refl _) (HT17.out.get (by simp)) (HV17.out.get (by simp)) (by omega) (by omega) HSU.out).mono ?_
      rw [HY.out]
      rintro e w18 ⟨Ar2, cr2, rfl, ho, hb⟩
      have HT18 : Hid (Ts w18 [(Ar2, ys), (Ar1, xs), (Ay, ys), (Al2, ys), (At2, ms), (Ax, xs), (Al1, xs), (At1, ms), (Am, ms)]) := HT17.out.ownT ho hb
      have HV18 : Hid (Vs w18 [(Arj, j), (Aj, j), (Au2, u), (Av2, v), (Av1, v), (Bu, u), (Bv, v)]) := HV17.out.keep hb
      have HB18 : Hid (Below w.heap.size w w18) := HB17.out.trans (hb.mono HB17.out.size)
      clear ho hb HV17 HT17
      go_wp2_with fail
      refine (rsameT_any Ay ys.length cy ys Ar2 ys.length cr2 ys w18.heap.size _ (HT18.out.get (by simp)) (HT18.out.get (by simp)) (by omega) (by omega)).mono ?_
      rw [sameT_self]
      rintro e w19 ⟨rfl, hd⟩
      have hb := drawn_below hd.out w18.heap.size
      clear hd
      have HT19 : Hid (Ts w19 [(Ar2, ys), (Ar1, xs), (Ay, ys), (Al2, ys), (At2, ms), (Ax, xs), (Al1, xs), (At1, ms), (Am, ms)]) := HT18.out.keep hb
      clear HT18
      have HV19 : Hid (Vs w19 [(Arj, j), (Aj, j), (Au2, u), (Av2, v), (Av1, v), (Bu, u), (Bv, v)]) := HV18.out.keep hb
      clear HV18
      have HB19 : Hid (Below w.heap.size w w19) := HB18.out.trans (hb.mono HB18.out.size)
      clear hb
      go_wp2
      go_ret
      exact ⟨rfl, HB19.out⟩
end Go.Proofs.Ytcbadocmkgodhaa
