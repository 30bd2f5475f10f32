/- The law CertMerges walked. -/
import Derived.Test.YtcbadocmkgodhaaCc
namespace Go.Proofs.Ytcbadocmkgodhaa
open Go.RowKit

theorem join_swap {xs ys : List At} (hx : Good xs) (hy : Good ys) : joinF xs ys = joinF ys xs := (hx.join hy).ext (hy.join hx) fun a => by
  rw [ofF_join hx.1 hy.1 hx.pos hy.pos, ofF_join hy.1 hx.1 hy.pos hx.pos]; omega
theorem join_twice {xs ys : List At} (hx : Good xs) (hy : Good ys) : joinF (joinF xs ys) ys = joinF xs ys := ((hx.join hy).join hy).ext (hx.join hy) fun a => by
  rw [ofF_join (hx.join hy).1 hy.1 (hx.join hy).pos hy.pos, ofF_join hx.1 hy.1 hx.pos hy.pos]; omega
theorem join_three {xs ys zs : List At} (hx : Good xs) (hy : Good ys) (hz : Good zs) : joinF (joinF xs ys) zs = joinF xs (joinF ys zs) := ((hx.join hy).join hz).ext (hx.join (hy.join hz)) fun a => by
  rw [ofF_join (hx.join hy).1 hz.1 (hx.join hy).pos hz.pos, ofF_join hx.1 hy.1 hx.pos hy.pos, ofF_join hx.1 (hy.join hz).1 hx.pos (hy.join hz).pos, ofF_join hy.1 hz.1 hy.pos hz.pos]; omega

set_option maxRecDepth 100000 in
set_option maxHeartbeats 16000000 in
theorem certMerges_walk (A0 : Option Addr) (n0 c0 : Nat) (z0 : List At) (A1 : Option Addr) (n1 c1 : Nat) (z1 : List At) (A2 : Option Addr) (n2 c2 : Nat) (z2 : List At) (w : World) (hz0 : VecAt w w.heap.size A0 n0 z0) (_hc0 : n0 ≤ c0) (_hs0 : Short z0) (_hn0 : n0 ≤ 9223372036854775807) (hz1 : VecAt w w.heap.size A1 n1 z1) (_hc1 : n1 ≤ c1) (_hs1 : Short z1) (_hn1 : n1 ≤ 9223372036854775807) (hz2 : VecAt w w.heap.size A2 n2 z2) (_hc2 : n2 ≤ c2) (_hs2 : Short z2) (_hn2 : n2 ≤ 9223372036854775807) :
    Calls Try.prog 4 #[.slice A0 n0 c0, .slice A1 n1 c1, .slice A2 n2 c2] w fun e w' => e = .returned (.bool true) ∧ Below w.heap.size w w' := by
  have HZ0 := Lib.hid hz0
  have HZ1 := Lib.hid hz1
  have HZ2 := Lib.hid hz2
  clear hz0 _hc0 _hs0 _hn0 hz1 _hc1 _hs1 _hn1 hz2 _hc2 _hs2 _hn2
  go_enter Try.func4, Try.ntmps4
  go_wp2_with fail
  refine (fixv_any A0 n0 c0 z0 w.heap.size _ (Nat.le_refl _) HZ0.out).mono ?_
  rintro e w1 ⟨x, gx, lx, Bx, dx, rfl, hdx, ho, hb⟩
  have Gx := Lib.hid gx
  clear gx
  have HV1 : Hid (Vs w1 [(Bx, x)]) := Vs.own (Vs.nil _) ho hb
  have HB1 : Hid (Below w.heap.size w w1) := hb
  clear ho hb
  go_wp2_with fail
  refine (fixv_any A1 n1 c1 z1 w.heap.size _ HB1.out.size (HZ1.out.keep HB1.out)).mono ?_
  rintro e w2 ⟨y, gy, ly, By, dy, rfl, hdy, ho, hb⟩
  have Gy := Lib.hid gy
  clear gy
  have HV2 : Hid (Vs w2 [(By, y), (Bx, x)]) := HV1.out.own ho hb
  have HB2 : Hid (Below w.heap.size w w2) := HB1.out.trans (hb.mono HB1.out.size)
  clear ho hb HV1
  go_wp2_with fail
  refine (fixv_any A2 n2 c2 z2 w.heap.size _ HB2.out.size (HZ2.out.keep HB2.out)).mono ?_
  rintro e w3 ⟨z, gz, lz, Bz, dz, rfl, hdz, ho, hb⟩
  have Gz := Lib.hid gz
  clear gz
  have HV3 : Hid (Vs w3 [(Bz, z), (By, y), (Bx, x)]) := HV2.out.own ho hb
  have HB3 : Hid (Below w.heap.size w w3) := HB2.out.trans (hb.mono HB2.out.size)
  clear ho hb HV2
  obtain ⟨m, hm⟩ : ∃ m, joinF x y = m := ⟨_, rfl⟩
  obtain ⟨q, hq⟩ : ∃ q, joinF y z = q := ⟨_, rfl⟩
  obtain ⟨t, ht⟩ : ∃ t, joinF m z = t := ⟨_, rfl⟩
  have lm : m.length ≤ 24 := by rw [← hm]; have := join_len x y; omega
  have lq : q.length ≤ 24 := by rw [← hq]; have := join_len y z; omega
  have lt : t.length ≤ 36 := by rw [← ht]; have := join_len m z; omega
  have Gm : Hid (Good m) := by show Good m; rw [← hm]; exact Gx.out.join Gy.out
  have Gq : Hid (Good q) := by show Good q; rw [← hq]; exact Gy.out.join Gz.out
  have HM := Lib.hid hm
  have HQ := Lib.hid hq
  have HT := Lib.hid ht
  have HMS : Hid (joinF y x = m) := by show _ = _; rw [← hm]; exact (join_swap Gx.out Gy.out).symm
  have HMT : Hid (joinF m y = m) := by show _ = _; rw [← hm]; exact join_twice Gx.out Gy.out
  have HTT : Hid (joinF x q = t) := by show _ = _; rw [← ht, ← hm, ← hq]; exact (join_three Gx.out Gy.out Gz.out).symm
  clear hm hq ht
  go_wp2_with fail
  refine (to_any Bx x.length dx x w3.heap.size _ (Nat.le_refl _) (HV3.out.get (by simp)) (by omega)).mono ?_
  rintro e w4 ⟨Ax, cx, rfl, hcx, ho, hb⟩
  have HV4 : Hid (Vs w4 [(Ax, x), (Bz, z), (By, y), (Bx, x)]) := HV3.out.own ho hb
  have HB4 : Hid (Below w.heap.size w w4) := HB3.out.trans (hb.mono HB3.out.size)
  clear ho hb HV3
  go_wp2_with fail
  refine (to_any By y.length dy y w4.heap.size _ (Nat.le_refl _) (HV4.out.get (by simp)) (by omega)).mono ?_
  rintro e w5 ⟨Ay, cy, rfl, hcy, ho, hb⟩
  have HV5 : Hid (Vs w5 [(Ay, y), (Ax, x), (Bz, z), (By, y), (Bx, x)]) := HV4.out.own ho hb
  have HB5 : Hid (Below w.heap.size w w5) := HB4.out.trans (hb.mono HB4.out.size)
  clear ho hb HV4
  go_wp2_with fail
  refine (to_any Bz z.length dz z w5.heap.size _ (Nat.le_refl _) (HV5.out.get (by simp)) (by omega)).mono ?_
  rintro e w6 ⟨Az, cz, rfl, hcz, ho, hb⟩
  have HV6 : Hid (Vs w6 [(Az, z), (Ay, y), (Ax, x), (Bz, z), (By, y), (Bx, x)]) := HV5.out.own ho hb
  have HB6 : Hid (Below w.heap.size w w6) := HB5.out.trans (hb.mono HB5.out.size)
  clear ho hb HV5
  go_wp2_with fail
  refine (merge_any Ax x.length cx x Ay y.length cy y w6.heap.size _ (Nat.le_refl _) (HV6.out.get (by simp)) (HV6.out.get (by simp)) hcx hcy (by omega) (by omega)).mono ?_
  rw [HM.out]
  rintro e w7 ⟨Am, cm, rfl, hcm, ho, hb⟩
  have HV7 : Hid (Vs w7 [(Am, m), (Az, z), (Ay, y), (Ax, x), (Bz, z), (By, y), (Bx, x)]) := HV6.out.own ho hb
  have HB7 : Hid (Below w.heap.size w w7) := HB6.out.trans (hb.mono HB6.out.size)
  clear ho hb HV6
  go_wp2_with fail
  refine (ctold_any _).mono ?_
  rintro e w8 ⟨rfl, hb⟩
  have HV8 : Hid (Vs w8 [(Am, m), (Az, z), (Ay, y), (Ax, x), (Bz, z), (By, y), (Bx, x)]) := HV7.out.keep hb
  have HB8 : Hid (Below w.heap.size w w8) := HB7.out.trans (hb.mono HB7.out.size)
  clear hb HV7
  go_wp2_with fail
  refine (from_any Am m.length cm m w8.heap.size _ (Nat.le_refl _) (HV8.out.get (by simp)) (by omega)).mono ?_
  rintro e w9 ⟨Af, cf, rfl, hcf, ho, hb⟩
  have HV9 : Hid (Vs w9 [(Af, m), (Am, m), (Az, z), (Ay, y), (Ax, x), (Bz, z), (By, y), (Bx, x)]) := HV8.out.own ho hb
  have HB9 : Hid (Below w.heap.size w w9) := HB8.out.trans (hb.mono HB8.out.size)
  clear ho hb HV8
  go_wp2_with fail
  refine (rjoin_any Bx x.length dx x By y.length dy y w9.heap.size _ (Nat.le_refl _) (HV9.out.get (by simp)) (HV9.out.get (by simp)) (by omega) (by omega) Gx.out Gy.out).mono ?_
  rw [HM.out]
  rintro e w10 ⟨Aj, cj, rfl, hcj, ho, hb⟩
  have HV10 : Hid (Vs w10 [(Aj, m), (Af, m), (Am, m), (Az, z), (Ay, y), (Ax, x), (Bz, z), (By, y), (Bx, x)]) := HV9.out.own ho hb
  have HB10 : Hid (Below w.heap.size w w10) := HB9.out.trans (hb.mono HB9.out.size)
  clear ho hb HV9
  go_wp2_with fail
  refine (rsame_any Af m.length cf m Aj m.length cj m w10.heap.size _ (HV10.out.get (by simp)) (HV10.out.get (by simp)) (by omega) (by omega)).mono ?_
  rw [same_self]
  rintro e w11 ⟨rfl, hd⟩
  have hb := drawn_below hd.out w10.heap.size
  clear hd
  have HV11 : Hid (Vs w11 [(Aj, m), (Af, m), (Am, m), (Az, z), (Ay, y), (Ax, x), (Bz, z), (By, y), (Bx, x)]) := HV10.out.keep hb
  have HB11 : Hid (Below w.heap.size w w11) := HB10.out.trans (hb.mono HB10.out.size)
  clear hb HV10
  go_wp2_with fail
  refine (merge_any Ay y.length cy y Ax x.length cx x w11.heap.size _ (Nat.le_refl _) (HV11.out.get (by simp)) (HV11.out.get (by simp)) hcy hcx (by omega) (by omega)).mono ?_
  rw [HMS.out]
  rintro e w12 ⟨Ak, ck, rfl, hck, ho, hb⟩
  have HV12 : Hid (Vs w12 [(Ak, m), (Aj, m), (Af, m), (Am, m), (Az, z), (Ay, y), (Ax, x), (Bz, z), (By, y), (Bx, x)]) := HV11.out.own ho hb
  have HB12 : Hid (Below w.heap.size w w12) := HB11.out.trans (hb.mono HB11.out.size)
  clear ho hb HV11
  go_wp2_with fail
  refine (same_any Am m.length cm m Ak m.length ck m w12.heap.size _ (HV12.out.get (by simp)) (HV12.out.get (by simp)) (by omega) (by omega)).mono ?_
  rw [same_self]
  rintro e w13 ⟨rfl, hd⟩
  have hb := drawn_below hd.out w12.heap.size
  clear hd
  have HV13 : Hid (Vs w13 [(Ak, m), (Aj, m), (Af, m), (Am, m), (Az, z), (Ay, y), (Ax, x), (Bz, z), (By, y), (Bx, x)]) := HV12.out.keep hb
  have HB13 : Hid (Below w.heap.size w w13) := HB12.out.trans (hb.mono HB12.out.size)
  clear hb HV12
  go_wp2_with fail
  refine (merge_any Am m.length cm m Ay y.length cy y w13.heap.size _ (Nat.le_refl _) (HV13.out.get (by simp)) (HV13.out.get (by simp)) hcm hcy (by omega) (by omega)).mono ?_
  rw [HMT.out]
  rintro e w14 ⟨Al, cl, rfl, hcl, ho, hb⟩
  have HV14 : Hid (Vs w14 [(Al, m), (Ak, m), (Aj, m), (Af, m), (Am, m), (Az, z), (Ay, y), (Ax, x), (Bz, z), (By, y), (Bx, x)]) := HV13.out.own ho hb
  have HB14 : Hid (Below w.heap.size w w14) := HB13.out.trans (hb.mono HB13.out.size)
  clear ho hb HV13
  go_wp2_with fail
  refine (same_any Am m.length cm m Al m.length cl m w14.heap.size _ (HV14.out.get (by simp)) (HV14.out.get (by simp)) (by omega) (by omega)).mono ?_
  rw [same_self]
  rintro e w15 ⟨rfl, hd⟩
  have hb := drawn_below hd.out w14.heap.size
  clear hd
  have HV15 : Hid (Vs w15 [(Al, m), (Ak, m), (Aj, m), (Af, m), (Am, m), (Az, z), (Ay, y), (Ax, x), (Bz, z), (By, y), (Bx, x)]) := HV14.out.keep hb
  have HB15 : Hid (Below w.heap.size w w15) := HB14.out.trans (hb.mono HB14.out.size)
  clear hb HV14
  go_wp2_with fail
  refine (merge_any Am m.length cm m Az z.length cz z w15.heap.size _ (Nat.le_refl _) (HV15.out.get (by simp)) (HV15.out.get (by simp)) hcm hcz (by omega) (by omega)).mono ?_
  rw [HT.out]
  rintro e w16 ⟨Ao, co, rfl, hco, ho, hb⟩
  have HV16 : Hid (Vs w16 [(Ao, t), (Al, m), (Ak, m), (Aj, m), (Af, m), (Am, m), (Az, z), (Ay, y), (Ax, x), (Bz, z), (By, y), (Bx, x)]) := HV15.out.own ho hb
  have HB16 : Hid (Below w.heap.size w w16) := HB15.out.trans (hb.mono HB15.out.size)
  clear ho hb HV15
  go_wp2_with fail
  refine (merge_any Ay y.length cy y Az z.length cz z w16.heap.size _ (Nat.le_refl _) (HV16.out.get (by simp)) (HV16.out.get (by simp)) hcy hcz (by omega) (by omega)).mono ?_
  rw [HQ.out]
  rintro e w17 ⟨Aq, cq, rfl, hcq, ho, hb⟩
  have HV17 : Hid (Vs w17 [(Aq, q), (Ao, t), (Al, m), (Ak, m), (Aj, m), (Af, m), (Am, m), (Az, z), (Ay, y), (Ax, x), (Bz, z), (By, y), (Bx, x)]) := HV16.out.own ho hb
  have HB17 : Hid (Below w.heap.size w w17) := HB16.out.trans (hb.mono HB16.out.size)
  clear ho hb HV16
  go_wp2_with fail
  refine (merge_any Ax x.length cx x Aq q.length cq q w17.heap.size _ (Nat.le_refl _) (HV17.out.get (by simp)) (HV17.out.get (by simp)) hcx hcq (by omega) (by omega)).mono ?_
  rw [HTT.out]
  rintro e w18 ⟨Au, cu, rfl, hcu, ho, hb⟩
  have HV18 : Hid (Vs w18 [(Au, t), (Aq, q), (Ao, t), (Al, m), (Ak, m), (Aj, m), (Af, m), (Am, m), (Az, z), (Ay, y), (Ax, x), (Bz, z), (By, y), (Bx, x)]) := HV17.out.own ho hb
  have HB18 : Hid (Below w.heap.size w w18) := HB17.out.trans (hb.mono HB17.out.size)
  clear ho hb HV17
  go_wp2_with fail
  refine (same_any Ao t.length co t Au t.length cu t w18.heap.size _ (HV18.out.get (by simp)) (HV18.out.get (by simp)) (by omega) (by omega)).mono ?_
  rw [same_self]
  rintro e w19 ⟨rfl, hd⟩
  have hb := drawn_below hd.out w18.heap.size
  clear hd
  have HV19 : Hid (Vs w19 [(Au, t), (Aq, q), (Ao, t), (Al, m), (Ak, m), (Aj, m), (Af, m), (Am, m), (Az, z), (Ay, y), (Ax, x), (Bz, z), (By, y), (Bx, x)]) := HV18.out.keep hb
  have HB19 : Hid (Below w.heap.size w w19) := HB18.out.trans (hb.mono HB18.out.size)
  clear hb HV18
  go_wp2
  go_ret
  exact ⟨rfl, HB19.out⟩
end Go.Proofs.Ytcbadocmkgodhaa
