/- The law VecGroups walked. -/
import Derived.Test.YthjmadlinkcphaaVr
namespace Go.Proofs.Ythjmadlinkcphaa
open Go.RowKit

set_option maxRecDepth 100000 in
set_option maxHeartbeats 16000000 in
theorem vecGroups_walk (A0 : Option Addr) (n0 c0 : Nat) (z0 : List At) (A1 : Option Addr) (n1 c1 : Nat) (z1 : List At) (A2 : Option Addr) (n2 c2 : Nat) (z2 : List At) (w : World) (hz0 : VecAt w w.heap.size A0 n0 z0) (_hc0 : n0 ≤ c0) (_hs0 : Short z0) (_hn0 : n0 ≤ 9223372036854775807) (hz1 : VecAt w w.heap.size A1 n1 z1) (_hc1 : n1 ≤ c1) (_hs1 : Short z1) (_hn1 : n1 ≤ 9223372036854775807) (hz2 : VecAt w w.heap.size A2 n2 z2) (_hc2 : n2 ≤ c2) (_hs2 : Short z2) (_hn2 : n2 ≤ 9223372036854775807) :
    Calls Try.prog 6 #[.slice A0 n0 c0, .slice A1 n1 c1, .slice A2 n2 c2] w fun e w' => e = .returned (.bool true) ∧ Below w.heap.size w w' := by
  have HZ0 := Lib.hid hz0
  have HZ1 := Lib.hid hz1
  have HZ2 := Lib.hid hz2
  clear hz0 _hc0 _hs0 _hn0 hz1 _hc1 _hs1 _hn1 hz2 _hc2 _hs2 _hn2
  go_enter Try.func6, Try.ntmps6
  go_wp2_with fail
  refine (fixv_any A0 n0 c0 z0 w.heap.size _ (Nat.le_refl _) HZ0.out).mono ?_
  rintro e w1 ⟨a, ga, la, Ba, da, rfl, hda, ho, hb⟩
  have Ga := Lib.hid ga
  clear ga
  have HV1 : Hid (Vs w1 [(Ba, a)]) := Vs.own (Vs.nil _) ho hb
  have HB1 : Hid (Below w.heap.size w w1) := hb
  clear ho hb
  go_wp2_with fail
  refine (to_any Ba a.length da a w1.heap.size _ (Nat.le_refl _) (HV1.out.get (by simp)) (by omega)).mono ?_
  rintro e w2 ⟨Ax, cx, rfl, hcx, ho, hb⟩
  have HV2 : Hid (Vs w2 [(Ax, a), (Ba, a)]) := HV1.out.own ho hb
  have HB2 : Hid (Below w.heap.size w w2) := HB1.out.trans (hb.mono HB1.out.size)
  clear ho hb HV1
  go_wp2_with fail
  refine (fixv_any A1 n1 c1 z1 w.heap.size _ HB2.out.size (HZ1.out.keep HB2.out)).mono ?_
  rintro e w3 ⟨b, gb, lb, Bb, db, rfl, hdb, ho, hb⟩
  have Gb := Lib.hid gb
  clear gb
  have HV3 : Hid (Vs w3 [(Bb, b), (Ax, a), (Ba, a)]) := HV2.out.own ho hb
  have HB3 : Hid (Below w.heap.size w w3) := HB2.out.trans (hb.mono HB2.out.size)
  clear ho hb HV2
  go_wp2_with fail
  refine (to_any Bb b.length db b w3.heap.size _ (Nat.le_refl _) (HV3.out.get (by simp)) (by omega)).mono ?_
  rintro e w4 ⟨Ay, cy, rfl, hcy, ho, hb⟩
  have HV4 : Hid (Vs w4 [(Ay, b), (Bb, b), (Ax, a), (Ba, a)]) := HV3.out.own ho hb
  have HB4 : Hid (Below w.heap.size w w4) := HB3.out.trans (hb.mono HB3.out.size)
  clear ho hb HV3
  go_wp2_with fail
  refine (fixv_any A2 n2 c2 z2 w.heap.size _ HB4.out.size (HZ2.out.keep HB4.out)).mono ?_
  rintro e w5 ⟨c, gc, lc, Bc, dc, rfl, hdc, ho, hb⟩
  have Gc := Lib.hid gc
  clear gc
  have HV5 : Hid (Vs w5 [(Bc, c), (Ay, b), (Bb, b), (Ax, a), (Ba, a)]) := HV4.out.own ho hb
  have HB5 : Hid (Below w.heap.size w w5) := HB4.out.trans (hb.mono HB4.out.size)
  clear ho hb HV4
  go_wp2_with fail
  refine (to_any Bc c.length dc c w5.heap.size _ (Nat.le_refl _) (HV5.out.get (by simp)) (by omega)).mono ?_
  rintro e w6 ⟨Az, cz, rfl, hcz, ho, hb⟩
  have HV6 : Hid (Vs w6 [(Az, c), (Bc, c), (Ay, b), (Bb, b), (Ax, a), (Ba, a)]) := HV5.out.own ho hb
  have HB6 : Hid (Below w.heap.size w w6) := HB5.out.trans (hb.mono HB5.out.size)
  clear ho hb HV5
  obtain ⟨j1, hj1⟩ : ∃ q, joinF a b = q := ⟨_, rfl⟩
  have Gj1 : Hid (Good j1) := by show Good j1; rw [← hj1]; exact Ga.out.join Gb.out
  have lj1 : j1.length ≤ 24 := by rw [← hj1]; have := join_len a b; omega
  have Ej1 := Lib.hid hj1
  clear hj1
  obtain ⟨j2, hj2⟩ : ∃ q, joinF b a = q := ⟨_, rfl⟩
  have Gj2 : Hid (Good j2) := by show Good j2; rw [← hj2]; exact Gb.out.join Ga.out
  have lj2 : j2.length ≤ 24 := by rw [← hj2]; have := join_len b a; omega
  have Ej2 := Lib.hid hj2
  clear hj2
  obtain ⟨m1, hm1⟩ : ∃ q, meetF a b = q := ⟨_, rfl⟩
  have Gm1 : Hid (Good m1) := by show Good m1; rw [← hm1]; exact Ga.out.meet b
  have lm1 : m1.length ≤ 12 := by rw [← hm1]; have := meet_len a b; omega
  have Em1 := Lib.hid hm1
  clear hm1
  obtain ⟨m2, hm2⟩ : ∃ q, meetF b a = q := ⟨_, rfl⟩
  have Gm2 : Hid (Good m2) := by show Good m2; rw [← hm2]; exact Gb.out.meet a
  have lm2 : m2.length ≤ 12 := by rw [← hm2]; have := meet_len b a; omega
  have Em2 := Lib.hid hm2
  clear hm2
  obtain ⟨j3, hj3⟩ : ∃ q, joinF j1 c = q := ⟨_, rfl⟩
  have Gj3 : Hid (Good j3) := by show Good j3; rw [← hj3]; exact Gj1.out.join Gc.out
  have lj3 : j3.length ≤ 36 := by rw [← hj3]; have := join_len j1 c; omega
  have Ej3 := Lib.hid hj3
  clear hj3
  obtain ⟨j4, hj4⟩ : ∃ q, joinF b c = q := ⟨_, rfl⟩
  have Gj4 : Hid (Good j4) := by show Good j4; rw [← hj4]; exact Gb.out.join Gc.out
  have lj4 : j4.length ≤ 24 := by rw [← hj4]; have := join_len b c; omega
  have Ej4 := Lib.hid hj4
  clear hj4
  obtain ⟨j5, hj5⟩ : ∃ q, joinF a j4 = q := ⟨_, rfl⟩
  have Gj5 : Hid (Good j5) := by show Good j5; rw [← hj5]; exact Ga.out.join Gj4.out
  have lj5 : j5.length ≤ 36 := by rw [← hj5]; have := join_len a j4; omega
  have Ej5 := Lib.hid hj5
  clear hj5
  obtain ⟨m3, hm3⟩ : ∃ q, meetF m1 c = q := ⟨_, rfl⟩
  have Gm3 : Hid (Good m3) := by show Good m3; rw [← hm3]; exact Gm1.out.meet c
  have lm3 : m3.length ≤ 12 := by rw [← hm3]; have := meet_len m1 c; omega
  have Em3 := Lib.hid hm3
  clear hm3
  obtain ⟨m4, hm4⟩ : ∃ q, meetF b c = q := ⟨_, rfl⟩
  have Gm4 : Hid (Good m4) := by show Good m4; rw [← hm4]; exact Gb.out.meet c
  have lm4 : m4.length ≤ 12 := by rw [← hm4]; have := meet_len b c; omega
  have Em4 := Lib.hid hm4
  clear hm4
  obtain ⟨m5, hm5⟩ : ∃ q, meetF a m4 = q := ⟨_, rfl⟩
  have Gm5 : Hid (Good m5) := by show Good m5; rw [← hm5]; exact Ga.out.meet m4
  have lm5 : m5.length ≤ 12 := by rw [← hm5]; have := meet_len a m4; omega
  have Em5 := Lib.hid hm5
  clear hm5
  obtain ⟨k1, hk1⟩ : ∃ q, joinF a m1 = q := ⟨_, rfl⟩
  have Gk1 : Hid (Good k1) := by show Good k1; rw [← hk1]; exact Ga.out.join Gm1.out
  have lk1 : k1.length ≤ 24 := by rw [← hk1]; have := join_len a m1; omega
  have Ek1 := Lib.hid hk1
  clear hk1
  obtain ⟨k2, hk2⟩ : ∃ q, meetF a j1 = q := ⟨_, rfl⟩
  have Gk2 : Hid (Good k2) := by show Good k2; rw [← hk2]; exact Ga.out.meet j1
  have lk2 : k2.length ≤ 12 := by rw [← hk2]; have := meet_len a j1; omega
  have Ek2 := Lib.hid hk2
  clear hk2
  obtain ⟨k3, hk3⟩ : ∃ q, meetF a j4 = q := ⟨_, rfl⟩
  have Gk3 : Hid (Good k3) := by show Good k3; rw [← hk3]; exact Ga.out.meet j4
  have lk3 : k3.length ≤ 12 := by rw [← hk3]; have := meet_len a j4; omega
  have Ek3 := Lib.hid hk3
  clear hk3
  obtain ⟨k4, hk4⟩ : ∃ q, meetF a c = q := ⟨_, rfl⟩
  have Gk4 : Hid (Good k4) := by show Good k4; rw [← hk4]; exact Ga.out.meet c
  have lk4 : k4.length ≤ 12 := by rw [← hk4]; have := meet_len a c; omega
  have Ek4 := Lib.hid hk4
  clear hk4
  obtain ⟨k5, hk5⟩ : ∃ q, joinF m1 k4 = q := ⟨_, rfl⟩
  have Gk5 : Hid (Good k5) := by show Good k5; rw [← hk5]; exact Gm1.out.join Gk4.out
  have lk5 : k5.length ≤ 24 := by rw [← hk5]; have := join_len m1 k4; omega
  have Ek5 := Lib.hid hk5
  clear hk5
  have oj1 : ∀ q, ofF j1 q = max (ofF a q) (ofF b q) := fun q => by rw [← Ej1.out]; exact ofF_join Ga.out.1 Gb.out.1 Ga.out.pos Gb.out.pos q
  have oj2 : ∀ q, ofF j2 q = max (ofF b q) (ofF a q) := fun q => by rw [← Ej2.out]; exact ofF_join Gb.out.1 Ga.out.1 Gb.out.pos Ga.out.pos q
  have om1 : ∀ q, ofF m1 q = min (ofF a q) (ofF b q) := fun q => by rw [← Em1.out]; exact ofF_meet Ga.out.1 Ga.out.pos Gb.out.pos q
  have om2 : ∀ q, ofF m2 q = min (ofF b q) (ofF a q) := fun q => by rw [← Em2.out]; exact ofF_meet Gb.out.1 Gb.out.pos Ga.out.pos q
  have oj3 : ∀ q, ofF j3 q = max (ofF j1 q) (ofF c q) := fun q => by rw [← Ej3.out]; exact ofF_join Gj1.out.1 Gc.out.1 Gj1.out.pos Gc.out.pos q
  have oj4 : ∀ q, ofF j4 q = max (ofF b q) (ofF c q) := fun q => by rw [← Ej4.out]; exact ofF_join Gb.out.1 Gc.out.1 Gb.out.pos Gc.out.pos q
  have oj5 : ∀ q, ofF j5 q = max (ofF a q) (ofF j4 q) := fun q => by rw [← Ej5.out]; exact ofF_join Ga.out.1 Gj4.out.1 Ga.out.pos Gj4.out.pos q
  have om3 : ∀ q, ofF m3 q = min (ofF m1 q) (ofF c q) := fun q => by rw [← Em3.out]; exact ofF_meet Gm1.out.1 Gm1.out.pos Gc.out.pos q
  have om4 : ∀ q, ofF m4 q = min (ofF b q) (ofF c q) := fun q => by rw [← Em4.out]; exact ofF_meet Gb.out.1 Gb.out.pos Gc.out.pos q
  have om5 : ∀ q, ofF m5 q = min (ofF a q) (ofF m4 q) := fun q => by rw [← Em5.out]; exact ofF_meet Ga.out.1 Ga.out.pos Gm4.out.pos q
  have ok1 : ∀ q, ofF k1 q = max (ofF a q) (ofF m1 q) := fun q => by rw [← Ek1.out]; exact ofF_join Ga.out.1 Gm1.out.1 Ga.out.pos Gm1.out.pos q
  have ok2 : ∀ q, ofF k2 q = min (ofF a q) (ofF j1 q) := fun q => by rw [← Ek2.out]; exact ofF_meet Ga.out.1 Ga.out.pos Gj1.out.pos q
  have ok3 : ∀ q, ofF k3 q = min (ofF a q) (ofF j4 q) := fun q => by rw [← Ek3.out]; exact ofF_meet Ga.out.1 Ga.out.pos Gj4.out.pos q
  have ok4 : ∀ q, ofF k4 q = min (ofF a q) (ofF c q) := fun q => by rw [← Ek4.out]; exact ofF_meet Ga.out.1 Ga.out.pos Gc.out.pos q
  have ok5 : ∀ q, ofF k5 q = max (ofF m1 q) (ofF k4 q) := fun q => by rw [← Ek5.out]; exact ofF_join Gm1.out.1 Gk4.out.1 Gm1.out.pos Gk4.out.pos q
  have T1 : Hid (decide (j1 = j2) = true) := same_true (Good.ext Gj1.out Gj2.out fun q => by have := oj1 q; have := oj2 q; have := ofF_nonneg Ga.out.pos q; have := ofF_nonneg Gb.out.pos q; have := ofF_nonneg Gc.out.pos q; omega)
  have T2 : Hid (decide (m1 = m2) = true) := same_true (Good.ext Gm1.out Gm2.out fun q => by have := om1 q; have := om2 q; have := ofF_nonneg Ga.out.pos q; have := ofF_nonneg Gb.out.pos q; have := ofF_nonneg Gc.out.pos q; omega)
  have T3 : Hid (decide (j3 = j5) = true) := same_true (Good.ext Gj3.out Gj5.out fun q => by have := oj3 q; have := oj1 q; have := oj5 q; have := oj4 q; have := ofF_nonneg Ga.out.pos q; have := ofF_nonneg Gb.out.pos q; have := ofF_nonneg Gc.out.pos q; omega)
  have T4 : Hid (decide (m3 = m5) = true) := same_true (Good.ext Gm3.out Gm5.out fun q => by have := om3 q; have := om1 q; have := om5 q; have := om4 q; have := ofF_nonneg Ga.out.pos q; have := ofF_nonneg Gb.out.pos q; have := ofF_nonneg Gc.out.pos q; omega)
  have T5 : Hid (decide (k1 = a) = true) := same_true (Good.ext Gk1.out Ga.out fun q => by have := ok1 q; have := om1 q; have := ofF_nonneg Ga.out.pos q; have := ofF_nonneg Gb.out.pos q; have := ofF_nonneg Gc.out.pos q; omega)
  have T6 : Hid (decide (k2 = a) = true) := same_true (Good.ext Gk2.out Ga.out fun q => by have := ok2 q; have := oj1 q; have := ofF_nonneg Ga.out.pos q; have := ofF_nonneg Gb.out.pos q; have := ofF_nonneg Gc.out.pos q; omega)
  have T7 : Hid (decide (k3 = k5) = true) := same_true (Good.ext Gk3.out Gk5.out fun q => by have := ok3 q; have := oj4 q; have := ok5 q; have := om1 q; have := ok4 q; have := ofF_nonneg Ga.out.pos q; have := ofF_nonneg Gb.out.pos q; have := ofF_nonneg Gc.out.pos q; omega)
  clear oj1 oj2 om1 om2 oj3 oj4 oj5 om3 om4 om5 ok1 ok2 ok3 ok4 ok5
  go_wp2_with fail
  refine (told_any _).mono ?_
  rintro e w7 ⟨rfl, hb⟩
  have HV7 : Hid (Vs w7 [(Az, c), (Bc, c), (Ay, b), (Bb, b), (Ax, a), (Ba, a)]) := HV6.out.keep hb
  have HB7 : Hid (Below w.heap.size w w7) := HB6.out.trans (hb.mono HB6.out.size)
  clear hb HV6
  go_wp2_with fail
  refine (join_any Ax a.length cx a Ay b.length cy b w7.heap.size _ (Nat.le_refl _) (HV7.out.get (by simp)) (HV7.out.get (by simp)) hcx hcy (by omega) (by omega)).mono ?_
  rw [Ej1.out]
  rintro e w8 ⟨Ap1, cp1, rfl, hcp1, ho, hb⟩
  have HV8 : Hid (Vs w8 [(Ap1, j1), (Az, c), (Bc, c), (Ay, b), (Bb, b), (Ax, a), (Ba, a)]) := HV7.out.own ho hb
  have HB8 : Hid (Below w.heap.size w w8) := HB7.out.trans (hb.mono HB7.out.size)
  clear ho hb HV7
  go_wp2_with fail
  refine (join_any Ay b.length cy b Ax a.length cx a w8.heap.size _ (Nat.le_refl _) (HV8.out.get (by simp)) (HV8.out.get (by simp)) hcy hcx (by omega) (by omega)).mono ?_
  rw [Ej2.out]
  rintro e w9 ⟨Ap2, cp2, rfl, hcp2, ho, hb⟩
  have HV9 : Hid (Vs w9 [(Ap2, j2), (Ap1, j1), (Az, c), (Bc, c), (Ay, b), (Bb, b), (Ax, a), (Ba, a)]) := HV8.out.own ho hb
  have HB9 : Hid (Below w.heap.size w w9) := HB8.out.trans (hb.mono HB8.out.size)
  clear ho hb HV8
  go_wp2_with fail
  refine (same_any Ap1 j1.length cp1 j1 Ap2 j2.length cp2 j2 w9.heap.size _ (HV9.out.get (by simp)) (HV9.out.get (by simp)) (by omega) (by omega)).mono ?_
  rw [T1.out]
  rintro e w10 ⟨rfl, hd⟩
  have hb := drawn_below hd.out w9.heap.size
  clear hd
  have HV10 : Hid (Vs w10 [(Ap2, j2), (Ap1, j1), (Az, c), (Bc, c), (Ay, b), (Bb, b), (Ax, a), (Ba, a)]) := HV9.out.keep hb
  have HB10 : Hid (Below w.heap.size w w10) := HB9.out.trans (hb.mono HB9.out.size)
  clear hb HV9
  go_wp2_with fail
  refine (meet_any Ax a.length cx a Ay b.length cy b w10.heap.size _ (Nat.le_refl _) (HV10.out.get (by simp)) (HV10.out.get (by simp)) (by omega) (by omega) Gb.out.1).mono ?_
  rw [Em1.out]
  rintro e w11 ⟨Ap3, cp3, rfl, hcp3, ho, hb⟩
  have HV11 : Hid (Vs w11 [(Ap3, m1), (Ap2, j2), (Ap1, j1), (Az, c), (Bc, c), (Ay, b), (Bb, b), (Ax, a), (Ba, a)]) := HV10.out.own ho hb
  have HB11 : Hid (Below w.heap.size w w11) := HB10.out.trans (hb.mono HB10.out.size)
  clear ho hb HV10
  go_wp2_with fail
  refine (meet_any Ay b.length cy b Ax a.length cx a w11.heap.size _ (Nat.le_refl _) (HV11.out.get (by simp)) (HV11.out.get (by simp)) (by omega) (by omega) Ga.out.1).mono ?_
  rw [Em2.out]
  rintro e w12 ⟨Ap4, cp4, rfl, hcp4, ho, hb⟩
  have HV12 : Hid (Vs w12 [(Ap4, m2), (Ap3, m1), (Ap2, j2), (Ap1, j1), (Az, c), (Bc, c), (Ay, b), (Bb, b), (Ax, a), (Ba, a)]) := HV11.out.own ho hb
  have HB12 : Hid (Below w.heap.size w w12) := HB11.out.trans (hb.mono HB11.out.size)
  clear ho hb HV11
  go_wp2_with fail
  refine (same_any Ap3 m1.length cp3 m1 Ap4 m2.length cp4 m2 w12.heap.size _ (HV12.out.get (by simp)) (HV12.out.get (by simp)) (by omega) (by omega)).mono ?_
  rw [T2.out]
  rintro e w13 ⟨rfl, hd⟩
  have hb := drawn_below hd.out w12.heap.size
  clear hd
  have HV13 : Hid (Vs w13 [(Ap4, m2), (Ap3, m1), (Ap2, j2), (Ap1, j1), (Az, c), (Bc, c), (Ay, b), (Bb, b), (Ax, a), (Ba, a)]) := HV12.out.keep hb
  have HB13 : Hid (Below w.heap.size w w13) := HB12.out.trans (hb.mono HB12.out.size)
  clear hb HV12
  go_wp2_with fail
  refine (join_any Ax a.length cx a Ay b.length cy b w13.heap.size _ (Nat.le_refl _) (HV13.out.get (by simp)) (HV13.out.get (by simp)) hcx hcy (by omega) (by omega)).mono ?_
  rw [Ej1.out]
  rintro e w14 ⟨Aq1, cq1, rfl, hcq1, ho, hb⟩
  have HV14 : Hid (Vs w14 [(Aq1, j1), (Ap4, m2), (Ap3, m1), (Ap2, j2), (Ap1, j1), (Az, c), (Bc, c), (Ay, b), (Bb, b), (Ax, a), (Ba, a)]) := HV13.out.own ho hb
  have HB14 : Hid (Below w.heap.size w w14) := HB13.out.trans (hb.mono HB13.out.size)
  clear ho hb HV13
  go_wp2_with fail
  refine (join_any Aq1 j1.length cq1 j1 Az c.length cz c w14.heap.size _ (Nat.le_refl _) (HV14.out.get (by simp)) (HV14.out.get (by simp)) hcq1 hcz (by omega) (by omega)).mono ?_
  rw [Ej3.out]
  rintro e w15 ⟨Aq2, cq2, rfl, hcq2, ho, hb⟩
  have HV15 : Hid (Vs w15 [(Aq2, j3), (Aq1, j1), (Ap4, m2), (Ap3, m1), (Ap2, j2), (Ap1, j1), (Az, c), (Bc, c), (Ay, b), (Bb, b), (Ax, a), (Ba, a)]) := HV14.out.own ho hb
  have HB15 : Hid (Below w.heap.size w w15) := HB14.out.trans (hb.mono HB14.out.size)
  clear ho hb HV14
  go_wp2_with fail
  refine (join_any Ay b.length cy b Az c.length cz c w15.heap.size _ (Nat.le_refl _) (HV15.out.get (by simp)) (HV15.out.get (by simp)) hcy hcz (by omega) (by omega)).mono ?_
  rw [Ej4.out]
  rintro e w16 ⟨Aq3, cq3, rfl, hcq3, ho, hb⟩
  have HV16 : Hid (Vs w16 [(Aq3, j4), (Aq2, j3), (Aq1, j1), (Ap4, m2), (Ap3, m1), (Ap2, j2), (Ap1, j1), (Az, c), (Bc, c), (Ay, b), (Bb, b), (Ax, a), (Ba, a)]) := HV15.out.own ho hb
  have HB16 : Hid (Below w.heap.size w w16) := HB15.out.trans (hb.mono HB15.out.size)
  clear ho hb HV15
  go_wp2_with fail
  refine (join_any Ax a.length cx a Aq3 j4.length cq3 j4 w16.heap.size _ (Nat.le_refl _) (HV16.out.get (by simp)) (HV16.out.get (by simp)) hcx hcq3 (by omega) (by omega)).mono ?_
  rw [Ej5.out]
  rintro e w17 ⟨Aq4, cq4, rfl, hcq4, ho, hb⟩
  have HV17 : Hid (Vs w17 [(Aq4, j5), (Aq3, j4), (Aq2, j3), (Aq1, j1), (Ap4, m2), (Ap3, m1), (Ap2, j2), (Ap1, j1), (Az, c), (Bc, c), (Ay, b), (Bb, b), (Ax, a), (Ba, a)]) := HV16.out.own ho hb
  have HB17 : Hid (Below w.heap.size w w17) := HB16.out.trans (hb.mono HB16.out.size)
  clear ho hb HV16
  go_wp2_with fail
  refine (same_any Aq2 j3.length cq2 j3 Aq4 j5.length cq4 j5 w17.heap.size _ (HV17.out.get (by simp)) (HV17.out.get (by simp)) (by omega) (by omega)).mono ?_
  rw [T3.out]
  rintro e w18 ⟨rfl, hd⟩
  have hb := drawn_below hd.out w17.heap.size
  clear hd
  have HV18 : Hid (Vs w18 [(Aq4, j5), (Aq3, j4), (Aq2, j3), (Aq1, j1), (Ap4, m2), (Ap3, m1), (Ap2, j2), (Ap1, j1), (Az, c), (Bc, c), (Ay, b), (Bb, b), (Ax, a), (Ba, a)]) := HV17.out.keep hb
  have HB18 : Hid (Below w.heap.size w w18) := HB17.out.trans (hb.mono HB17.out.size)
  clear hb HV17
  go_wp2_with fail
  refine (meet_any Ax a.length cx a Ay b.length cy b w18.heap.size _ (Nat.le_refl _) (HV18.out.get (by simp)) (HV18.out.get (by simp)) (by omega) (by omega) Gb.out.1).mono ?_
  rw [Em1.out]
  rintro e w19 ⟨Ar1, cr1, rfl, hcr1, ho, hb⟩
  have HV19 : Hid (Vs w19 [(Ar1, m1), (Aq4, j5), (Aq3, j4), (Aq2, j3), (Aq1, j1), (Ap4, m2), (Ap3, m1), (Ap2, j2), (Ap1, j1), (Az, c), (Bc, c), (Ay, b), (Bb, b), (Ax, a), (Ba, a)]) := HV18.out.own ho hb
  have HB19 : Hid (Below w.heap.size w w19) := HB18.out.trans (hb.mono HB18.out.size)
  clear ho hb HV18
  go_wp2_with fail
  refine (meet_any Ar1 m1.length cr1 m1 Az c.length cz c w19.heap.size _ (Nat.le_refl _) (HV19.out.get (by simp)) (HV19.out.get (by simp)) (by omega) (by omega) Gc.out.1).mono ?_
  rw [Em3.out]
  rintro e w20 ⟨Ar2, cr2, rfl, hcr2, ho, hb⟩
  have HV20 : Hid (Vs w20 [(Ar2, m3), (Ar1, m1), (Aq4, j5), (Aq3, j4), (Aq2, j3), (Aq1, j1), (Ap4, m2), (Ap3, m1), (Ap2, j2), (Ap1, j1), (Az, c), (Bc, c), (Ay, b), (Bb, b), (Ax, a), (Ba, a)]) := HV19.out.own ho hb
  have HB20 : Hid (Below w.heap.size w w20) := HB19.out.trans (hb.mono HB19.out.size)
  clear ho hb HV19
  go_wp2_with fail
  refine (meet_any Ay b.length cy b Az c.length cz c w20.heap.size _ (Nat.le_refl _) (HV20.out.get (by simp)) (HV20.out.get (by simp)) (by omega) (by omega) Gc.out.1).mono ?_
  rw [Em4.out]
  rintro e w21 ⟨Ar3, cr3, rfl, hcr3, ho, hb⟩
  have HV21 : Hid (Vs w21 [(Ar3, m4), (Ar2, m3), (Ar1, m1), (Aq4, j5), (Aq3, j4), (Aq2, j3), (Aq1, j1), (Ap4, m2), (Ap3, m1), (Ap2, j2), (Ap1, j1), (Az, c), (Bc, c), (Ay, b), (Bb, b), (Ax, a), (Ba, a)]) := HV20.out.own ho hb
  have HB21 : Hid (Below w.heap.size w w21) := HB20.out.trans (hb.mono HB20.out.size)
  clear ho hb HV20
  go_wp2_with fail
  refine (meet_any Ax a.length cx a Ar3 m4.length cr3 m4 w21.heap.size _ (Nat.le_refl _) (HV21.out.get (by simp)) (HV21.out.get (by simp)) (by omega) (by omega) Gm4.out.1).mono ?_
  rw [Em5.out]
  rintro e w22 ⟨Ar4, cr4, rfl, hcr4, ho, hb⟩
  have HV22 : Hid (Vs w22 [(Ar4, m5), (Ar3, m4), (Ar2, m3), (Ar1, m1), (Aq4, j5), (Aq3, j4), (Aq2, j3), (Aq1, j1), (Ap4, m2), (Ap3, m1), (Ap2, j2), (Ap1, j1), (Az, c), (Bc, c), (Ay, b), (Bb, b), (Ax, a), (Ba, a)]) := HV21.out.own ho hb
  have HB22 : Hid (Below w.heap.size w w22) := HB21.out.trans (hb.mono HB21.out.size)
  clear ho hb HV21
  go_wp2_with fail
  refine (same_any Ar2 m3.length cr2 m3 Ar4 m5.length cr4 m5 w22.heap.size _ (HV22.out.get (by simp)) (HV22.out.get (by simp)) (by omega) (by omega)).mono ?_
  rw [T4.out]
  rintro e w23 ⟨rfl, hd⟩
  have hb := drawn_below hd.out w22.heap.size
  clear hd
  have HV23 : Hid (Vs w23 [(Ar4, m5), (Ar3, m4), (Ar2, m3), (Ar1, m1), (Aq4, j5), (Aq3, j4), (Aq2, j3), (Aq1, j1), (Ap4, m2), (Ap3, m1), (Ap2, j2), (Ap1, j1), (Az, c), (Bc, c), (Ay, b), (Bb, b), (Ax, a), (Ba, a)]) := HV22.out.keep hb
  have HB23 : Hid (Below w.heap.size w w23) := HB22.out.trans (hb.mono HB22.out.size)
  clear hb HV22
  go_wp2_with fail
  refine (meet_any Ax a.length cx a Ay b.length cy b w23.heap.size _ (Nat.le_refl _) (HV23.out.get (by simp)) (HV23.out.get (by simp)) (by omega) (by omega) Gb.out.1).mono ?_
  rw [Em1.out]
  rintro e w24 ⟨As1, cs1, rfl, hcs1, ho, hb⟩
  have HV24 : Hid (Vs w24 [(As1, m1), (Ar4, m5), (Ar3, m4), (Ar2, m3), (Ar1, m1), (Aq4, j5), (Aq3, j4), (Aq2, j3), (Aq1, j1), (Ap4, m2), (Ap3, m1), (Ap2, j2), (Ap1, j1), (Az, c), (Bc, c), (Ay, b), (Bb, b), (Ax, a), (Ba, a)]) := HV23.out.own ho hb
  have HB24 : Hid (Below w.heap.size w w24) := HB23.out.trans (hb.mono HB23.out.size)
  clear ho hb HV23
  go_wp2_with fail
  refine (join_any Ax a.length cx a As1 m1.length cs1 m1 w24.heap.size _ (Nat.le_refl _) (HV24.out.get (by simp)) (HV24.out.get (by simp)) hcx hcs1 (by omega) (by omega)).mono ?_
  rw [Ek1.out]
  rintro e w25 ⟨As2, cs2, rfl, hcs2, ho, hb⟩
  have HV25 : Hid (Vs w25 [(As2, k1), (As1, m1), (Ar4, m5), (Ar3, m4), (Ar2, m3), (Ar1, m1), (Aq4, j5), (Aq3, j4), (Aq2, j3), (Aq1, j1), (Ap4, m2), (Ap3, m1), (Ap2, j2), (Ap1, j1), (Az, c), (Bc, c), (Ay, b), (Bb, b), (Ax, a), (Ba, a)]) := HV24.out.own ho hb
  have HB25 : Hid (Below w.heap.size w w25) := HB24.out.trans (hb.mono HB24.out.size)
  clear ho hb HV24
  go_wp2_with fail
  refine (same_any As2 k1.length cs2 k1 Ax a.length cx a w25.heap.size _ (HV25.out.get (by simp)) (HV25.out.get (by simp)) (by omega) (by omega)).mono ?_
  rw [T5.out]
  rintro e w26 ⟨rfl, hd⟩
  have hb := drawn_below hd.out w25.heap.size
  clear hd
  have HV26 : Hid (Vs w26 [(As2, k1), (As1, m1), (Ar4, m5), (Ar3, m4), (Ar2, m3), (Ar1, m1), (Aq4, j5), (Aq3, j4), (Aq2, j3), (Aq1, j1), (Ap4, m2), (Ap3, m1), (Ap2, j2), (Ap1, j1), (Az, c), (Bc, c), (Ay, b), (Bb, b), (Ax, a), (Ba, a)]) := HV25.out.keep hb
  have HB26 : Hid (Below w.heap.size w w26) := HB25.out.trans (hb.mono HB25.out.size)
  clear hb HV25
  go_wp2_with fail
  refine (join_any Ax a.length cx a Ay b.length cy b w26.heap.size _ (Nat.le_refl _) (HV26.out.get (by simp)) (HV26.out.get (by simp)) hcx hcy (by omega) (by omega)).mono ?_
  rw [Ej1.out]
  rintro e w27 ⟨At1, ct1, rfl, hct1, ho, hb⟩
  have HV27 : Hid (Vs w27 [(At1, j1), (As2, k1), (As1, m1), (Ar4, m5), (Ar3, m4), (Ar2, m3), (Ar1, m1), (Aq4, j5), (Aq3, j4), (Aq2, j3), (Aq1, j1), (Ap4, m2), (Ap3, m1), (Ap2, j2), (Ap1, j1), (Az, c), (Bc, c), (Ay, b), (Bb, b), (Ax, a), (Ba, a)]) := HV26.out.own ho hb
  have HB27 : Hid (Below w.heap.size w w27) := HB26.out.trans (hb.mono HB26.out.size)
  clear ho hb HV26
  go_wp2_with fail
  refine (meet_any Ax a.length cx a At1 j1.length ct1 j1 w27.heap.size _ (Nat.le_refl _) (HV27.out.get (by simp)) (HV27.out.get (by simp)) (by omega) (by omega) Gj1.out.1).mono ?_
  rw [Ek2.out]
  rintro e w28 ⟨At2, ct2, rfl, hct2, ho, hb⟩
  have HV28 : Hid (Vs w28 [(At2, k2), (At1, j1), (As2, k1), (As1, m1), (Ar4, m5), (Ar3, m4), (Ar2, m3), (Ar1, m1), (Aq4, j5), (Aq3, j4), (Aq2, j3), (Aq1, j1), (Ap4, m2), (Ap3, m1), (Ap2, j2), (Ap1, j1), (Az, c), (Bc, c), (Ay, b), (Bb, b), (Ax, a), (Ba, a)]) := HV27.out.own ho hb
  have HB28 : Hid (Below w.heap.size w w28) := HB27.out.trans (hb.mono HB27.out.size)
  clear ho hb HV27
  go_wp2_with fail
  refine (same_any At2 k2.length ct2 k2 Ax a.length cx a w28.heap.size _ (HV28.out.get (by simp)) (HV28.out.get (by simp)) (by omega) (by omega)).mono ?_
  rw [T6.out]
  rintro e w29 ⟨rfl, hd⟩
  have hb := drawn_below hd.out w28.heap.size
  clear hd
  have HV29 : Hid (Vs w29 [(At2, k2), (At1, j1), (As2, k1), (As1, m1), (Ar4, m5), (Ar3, m4), (Ar2, m3), (Ar1, m1), (Aq4, j5), (Aq3, j4), (Aq2, j3), (Aq1, j1), (Ap4, m2), (Ap3, m1), (Ap2, j2), (Ap1, j1), (Az, c), (Bc, c), (Ay, b), (Bb, b), (Ax, a), (Ba, a)]) := HV28.out.keep hb
  have HB29 : Hid (Below w.heap.size w w29) := HB28.out.trans (hb.mono HB28.out.size)
  clear hb HV28
  go_wp2_with fail
  refine (join_any Ay b.length cy b Az c.length cz c w29.heap.size _ (Nat.le_refl _) (HV29.out.get (by simp)) (HV29.out.get (by simp)) hcy hcz (by omega) (by omega)).mono ?_
  rw [Ej4.out]
  rintro e w30 ⟨Au1, cu1, rfl, hcu1, ho, hb⟩
  have HV30 : Hid (Vs w30 [(Au1, j4), (At2, k2), (At1, j1), (As2, k1), (As1, m1), (Ar4, m5), (Ar3, m4), (Ar2, m3), (Ar1, m1), (Aq4, j5), (Aq3, j4), (Aq2, j3), (Aq1, j1), (Ap4, m2), (Ap3, m1), (Ap2, j2), (Ap1, j1), (Az, c), (Bc, c), (Ay, b), (Bb, b), (Ax, a), (Ba, a)]) := HV29.out.own ho hb
  have HB30 : Hid (Below w.heap.size w w30) := HB29.out.trans (hb.mono HB29.out.size)
  clear ho hb HV29
  go_wp2_with fail
  refine (meet_any Ax a.length cx a Au1 j4.length cu1 j4 w30.heap.size _ (Nat.le_refl _) (HV30.out.get (by simp)) (HV30.out.get (by simp)) (by omega) (by omega) Gj4.out.1).mono ?_
  rw [Ek3.out]
  rintro e w31 ⟨Au2, cu2, rfl, hcu2, ho, hb⟩
  have HV31 : Hid (Vs w31 [(Au2, k3), (Au1, j4), (At2, k2), (At1, j1), (As2, k1), (As1, m1), (Ar4, m5), (Ar3, m4), (Ar2, m3), (Ar1, m1), (Aq4, j5), (Aq3, j4), (Aq2, j3), (Aq1, j1), (Ap4, m2), (Ap3, m1), (Ap2, j2), (Ap1, j1), (Az, c), (Bc, c), (Ay, b), (Bb, b), (Ax, a), (Ba, a)]) := HV30.out.own ho hb
  have HB31 : Hid (Below w.heap.size w w31) := HB30.out.trans (hb.mono HB30.out.size)
  clear ho hb HV30
  go_wp2_with fail
  refine (meet_any Ax a.length cx a Ay b.length cy b w31.heap.size _ (Nat.le_refl _) (HV31.out.get (by simp)) (HV31.out.get (by simp)) (by omega) (by omega) Gb.out.1).mono ?_
  rw [Em1.out]
  rintro e w32 ⟨Au3, cu3, rfl, hcu3, ho, hb⟩
  have HV32 : Hid (Vs w32 [(Au3, m1), (Au2, k3), (Au1, j4), (At2, k2), (At1, j1), (As2, k1), (As1, m1), (Ar4, m5), (Ar3, m4), (Ar2, m3), (Ar1, m1), (Aq4, j5), (Aq3, j4), (Aq2, j3), (Aq1, j1), (Ap4, m2), (Ap3, m1), (Ap2, j2), (Ap1, j1), (Az, c), (Bc, c), (Ay, b), (Bb, b), (Ax, a), (Ba, a)]) := HV31.out.own ho hb
  have HB32 : Hid (Below w.heap.size w w32) := HB31.out.trans (hb.mono HB31.out.size)
  clear ho hb HV31
  go_wp2_with fail
  refine (meet_any Ax a.length cx a Az c.length cz c w32.heap.size _ (Nat.le_refl _) (HV32.out.get (by simp)) (HV32.out.get (by simp)) (by omega) (by omega) Gc.out.1).mono ?_
  rw [Ek4.out]
  rintro e w33 ⟨Au4, cu4, rfl, hcu4, ho, hb⟩
  have HV33 : Hid (Vs w33 [(Au4, k4), (Au3, m1), (Au2, k3), (Au1, j4), (At2, k2), (At1, j1), (As2, k1), (As1, m1), (Ar4, m5), (Ar3, m4), (Ar2, m3), (Ar1, m1), (Aq4, j5), (Aq3, j4), (Aq2, j3), (Aq1, j1), (Ap4, m2), (Ap3, m1), (Ap2, j2), (Ap1, j1), (Az, c), (Bc, c), (Ay, b), (Bb, b), (Ax, a), (Ba, a)]) := HV32.out.own ho hb
  have HB33 : Hid (Below w.heap.size w w33) := HB32.out.trans (hb.mono HB32.out.size)
  clear ho hb HV32
  go_wp2_with fail
  refine (join_any Au3 m1.length cu3 m1 Au4 k4.length cu4 k4 w33.heap.size _ (Nat.le_refl _) (HV33.out.get (by simp)) (HV33.out.get (by simp)) hcu3 hcu4 (by omega) (by omega)).mono ?_
  rw [Ek5.out]
  rintro e w34 ⟨Au5, cu5, rfl, hcu5, ho, hb⟩
  have HV34 : Hid (Vs w34 [(Au5, k5), (Au4, k4), (Au3, m1), (Au2, k3), (Au1, j4), (At2, k2), (At1, j1), (As2, k1), (As1, m1), (Ar4, m5), (Ar3, m4), (Ar2, m3), (Ar1, m1), (Aq4, j5), (Aq3, j4), (Aq2, j3), (Aq1, j1), (Ap4, m2), (Ap3, m1), (Ap2, j2), (Ap1, j1), (Az, c), (Bc, c), (Ay, b), (Bb, b), (Ax, a), (Ba, a)]) := HV33.out.own ho hb
  have HB34 : Hid (Below w.heap.size w w34) := HB33.out.trans (hb.mono HB33.out.size)
  clear ho hb HV33
  go_wp2_with fail
  refine (same_any Au2 k3.length cu2 k3 Au5 k5.length cu5 k5 w34.heap.size _ (HV34.out.get (by simp)) (HV34.out.get (by simp)) (by omega) (by omega)).mono ?_
  rw [T7.out]
  rintro e w35 ⟨rfl, hd⟩
  have hb := drawn_below hd.out w34.heap.size
  clear hd
  have HV35 : Hid (Vs w35 [(Au5, k5), (Au4, k4), (Au3, m1), (Au2, k3), (Au1, j4), (At2, k2), (At1, j1), (As2, k1), (As1, m1), (Ar4, m5), (Ar3, m4), (Ar2, m3), (Ar1, m1), (Aq4, j5), (Aq3, j4), (Aq2, j3), (Aq1, j1), (Ap4, m2), (Ap3, m1), (Ap2, j2), (Ap1, j1), (Az, c), (Bc, c), (Ay, b), (Bb, b), (Ax, a), (Ba, a)]) := HV34.out.keep hb
  have HB35 : Hid (Below w.heap.size w w35) := HB34.out.trans (hb.mono HB34.out.size)
  clear hb HV34
  go_wp2
  go_ret
  exact ⟨rfl, HB35.out⟩
end Go.Proofs.Ythjmadlinkcphaa
