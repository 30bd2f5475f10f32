/- The law VecJoins walked. -/
import Derived.Test.YthjmadlinkcphaaVr
namespace Go.Proofs.Ythjmadlinkcphaa
open Go.RowKit

theorem join_le {x y z : List At} (gx : Good x) (gy : Good y) (gz : Good z) : withinF (joinF x y) z = (withinF x z && withinF y z) := by
  rw [Bool.eq_iff_iff, Bool.and_eq_true, within_iff (gx.join gy).1 gz.pos, within_iff gx.1 gz.pos, within_iff gy.1 gz.pos]
  constructor
  · intro h
    exact ⟨fun c => by have := h c; rw [ofF_join gx.1 gy.1 gx.pos gy.pos] at this; omega, fun c => by have := h c; rw [ofF_join gx.1 gy.1 gx.pos gy.pos] at this; omega⟩
  · rintro ⟨h1, h2⟩ c
    rw [ofF_join gx.1 gy.1 gx.pos gy.pos]; have := h1 c; have := h2 c; omega
theorem le_meet {x y z : List At} (gx : Good x) (gy : Good y) (gz : Good z) : withinF z (meetF x y) = (withinF z x && withinF z y) := by
  rw [Bool.eq_iff_iff, Bool.and_eq_true, within_iff gz.1 (gx.meet y).pos, within_iff gz.1 gx.pos, within_iff gz.1 gy.pos]
  constructor
  · intro h
    exact ⟨fun c => by have := h c; rw [ofF_meet gx.1 gx.pos gy.pos] at this; omega, fun c => by have := h c; rw [ofF_meet gx.1 gx.pos gy.pos] at this; omega⟩
  · rintro ⟨h1, h2⟩ c
    rw [ofF_meet gx.1 gx.pos gy.pos]; have := h1 c; have := h2 c; omega
theorem within_self {x : List At} (g : Good x) : withinF x x = true := (within_iff g.1 g.pos).mpr fun _ => Int.le_refl _

set_option maxRecDepth 100000 in
set_option maxHeartbeats 16000000 in
theorem vecJoins_walk (A0 : Option Addr) (n0 c0 : Nat) (z0 : List At) (A1 : Option Addr) (n1 c1 : Nat) (z1 : List At) (A2 : Option Addr) (n2 c2 : Nat) (z2 : List At) (w : World) (hz0 : VecAt w w.heap.size A0 n0 z0) (_hc0 : n0 ≤ c0) (_hs0 : Short z0) (_hn0 : n0 ≤ 9223372036854775807) (hz1 : VecAt w w.heap.size A1 n1 z1) (_hc1 : n1 ≤ c1) (_hs1 : Short z1) (_hn1 : n1 ≤ 9223372036854775807) (hz2 : VecAt w w.heap.size A2 n2 z2) (_hc2 : n2 ≤ c2) (_hs2 : Short z2) (_hn2 : n2 ≤ 9223372036854775807) :
    Calls Try.prog 5 #[.slice A0 n0 c0, .slice A1 n1 c1, .slice A2 n2 c2] w fun e w' => e = .returned (.bool true) ∧ Below w.heap.size w w' := by
  have HZ0 := Lib.hid hz0
  have HZ1 := Lib.hid hz1
  have HZ2 := Lib.hid hz2
  clear hz0 _hc0 _hs0 _hn0 hz1 _hc1 _hs1 _hn1 hz2 _hc2 _hs2 _hn2
  go_enter Try.func5, Try.ntmps5
  go_wp2_with fail
  refine (fixv_any A0 n0 c0 z0 w.heap.size _ (Nat.le_refl _) HZ0.out).mono ?_
  rintro e w1 ⟨a, ga, la, Ba, da, rfl, hda, ho, hb⟩
  have Ga := Lib.hid ga
  clear ga
  have HV1 : Hid (Vs w1 [(Ba, a)]) := Vs.own (Vs.nil _) ho hb
  have HB1 : Hid (Below w.heap.size w w1) := hb
  clear ho hb
  go_wp2_with fail
  refine (fixv_any A1 n1 c1 z1 w.heap.size _ HB1.out.size (HZ1.out.keep HB1.out)).mono ?_
  rintro e w2 ⟨b, gb, lb, Bb, db, rfl, hdb, ho, hb⟩
  have Gb := Lib.hid gb
  clear gb
  have HV2 : Hid (Vs w2 [(Bb, b), (Ba, a)]) := HV1.out.own ho hb
  have HB2 : Hid (Below w.heap.size w w2) := HB1.out.trans (hb.mono HB1.out.size)
  clear ho hb HV1
  go_wp2_with fail
  refine (fixv_any A2 n2 c2 z2 w.heap.size _ HB2.out.size (HZ2.out.keep HB2.out)).mono ?_
  rintro e w3 ⟨c, gc, lc, Bc, dc, rfl, hdc, ho, hb⟩
  have Gc := Lib.hid gc
  clear gc
  have HV3 : Hid (Vs w3 [(Bc, c), (Bb, b), (Ba, a)]) := HV2.out.own ho hb
  have HB3 : Hid (Below w.heap.size w w3) := HB2.out.trans (hb.mono HB2.out.size)
  clear ho hb HV2
  obtain ⟨j, hj⟩ : ∃ q, joinF a b = q := ⟨_, rfl⟩
  have Gj : Hid (Good j) := by show Good j; rw [← hj]; exact Ga.out.join Gb.out
  have lj : j.length ≤ 24 := by rw [← hj]; have := join_len a b; omega
  have Ej := Lib.hid hj
  clear hj
  obtain ⟨m, hm⟩ : ∃ q, meetF a b = q := ⟨_, rfl⟩
  have Gm : Hid (Good m) := by show Good m; rw [← hm]; exact Ga.out.meet b
  have lm : m.length ≤ 12 := by rw [← hm]; have := meet_len a b; omega
  have Em := Lib.hid hm
  clear hm
  have R1 := good_right Gj.out
  have R2 := good_right Gm.out
  have W1 : Hid (withinF a j = true) := by show _ = _; have h := join_le Ga.out Gb.out Gj.out; rw [Ej.out, within_self Gj.out] at h; simp at h; exact h.1
  have W2 : Hid (withinF b j = true) := by show _ = _; have h := join_le Ga.out Gb.out Gj.out; rw [Ej.out, within_self Gj.out] at h; simp at h; exact h.2
  have W3 : Hid (withinF m a = true) := by show _ = _; have h := le_meet Ga.out Gb.out Gm.out; rw [Em.out, within_self Gm.out] at h; simp at h; exact h.1
  have W4 : Hid (withinF m b = true) := by show _ = _; have h := le_meet Ga.out Gb.out Gm.out; rw [Em.out, within_self Gm.out] at h; simp at h; exact h.2
  obtain ⟨p1, hp1⟩ : ∃ p, withinF a c = p := ⟨_, rfl⟩
  obtain ⟨p2, hp2⟩ : ∃ p, withinF b c = p := ⟨_, rfl⟩
  obtain ⟨p3, hp3⟩ : ∃ p, withinF c a = p := ⟨_, rfl⟩
  obtain ⟨p4, hp4⟩ : ∃ p, withinF c b = p := ⟨_, rfl⟩
  obtain ⟨p5, hp5⟩ : ∃ p, withinF a b = p := ⟨_, rfl⟩
  obtain ⟨p6, hp6⟩ : ∃ p, decide (a = b) = p := ⟨_, rfl⟩
  have P1 := Lib.hid hp1
  have P2 := Lib.hid hp2
  have P3 := Lib.hid hp3
  have P4 := Lib.hid hp4
  have P5 := Lib.hid hp5
  have P6 := Lib.hid hp6
  have P7 : Hid (withinF j c = (p1 && p2)) := by show _ = _; rw [← Ej.out, join_le Ga.out Gb.out Gc.out, hp1, hp2]
  have P8 : Hid (withinF c m = (p3 && p4)) := by show _ = _; rw [← Em.out, le_meet Ga.out Gb.out Gc.out, hp3, hp4]
  clear hp1 hp2 hp3 hp4 hp5 hp6
  go_wp2_with fail
  refine (to_any Ba a.length da a w3.heap.size _ (Nat.le_refl _) (HV3.out.get (by simp)) (by omega)).mono ?_
  rintro e w4 ⟨Ax, cx, rfl, hcx, ho, hb⟩
  have HV4 : Hid (Vs w4 [(Ax, a), (Bc, c), (Bb, b), (Ba, a)]) := HV3.out.own ho hb
  have HB4 : Hid (Below w.heap.size w w4) := HB3.out.trans (hb.mono HB3.out.size)
  clear ho hb HV3
  go_wp2_with fail
  refine (to_any Bb b.length db b w4.heap.size _ (Nat.le_refl _) (HV4.out.get (by simp)) (by omega)).mono ?_
  rintro e w5 ⟨Ay, cy, rfl, hcy, ho, hb⟩
  have HV5 : Hid (Vs w5 [(Ay, b), (Ax, a), (Bc, c), (Bb, b), (Ba, a)]) := HV4.out.own ho hb
  have HB5 : Hid (Below w.heap.size w w5) := HB4.out.trans (hb.mono HB4.out.size)
  clear ho hb HV4
  go_wp2_with fail
  refine (to_any Bc c.length dc c w5.heap.size _ (Nat.le_refl _) (HV5.out.get (by simp)) (by omega)).mono ?_
  rintro e w6 ⟨Az, cz, rfl, hcz, ho, hb⟩
  have HV6 : Hid (Vs w6 [(Az, c), (Ay, b), (Ax, a), (Bc, c), (Bb, b), (Ba, a)]) := HV5.out.own ho hb
  have HB6 : Hid (Below w.heap.size w w6) := HB5.out.trans (hb.mono HB5.out.size)
  clear ho hb HV5
  go_wp2_with fail
  refine (join_any Ax a.length cx a Ay b.length cy b w6.heap.size _ (Nat.le_refl _) (HV6.out.get (by simp)) (HV6.out.get (by simp)) hcx hcy (by omega) (by omega)).mono ?_
  rw [Ej.out]
  rintro e w7 ⟨Aj, cj, rfl, hcj, ho, hb⟩
  have HV7 : Hid (Vs w7 [(Aj, j), (Az, c), (Ay, b), (Ax, a), (Bc, c), (Bb, b), (Ba, a)]) := HV6.out.own ho hb
  have HB7 : Hid (Below w.heap.size w w7) := HB6.out.trans (hb.mono HB6.out.size)
  clear ho hb HV6
  go_wp2_with fail
  refine (meet_any Ax a.length cx a Ay b.length cy b w7.heap.size _ (Nat.le_refl _) (HV7.out.get (by simp)) (HV7.out.get (by simp)) (by omega) (by omega) Gb.out.1).mono ?_
  rw [Em.out]
  rintro e w8 ⟨Am, cm, rfl, hcm, ho, hb⟩
  have HV8 : Hid (Vs w8 [(Am, m), (Aj, j), (Az, c), (Ay, b), (Ax, a), (Bc, c), (Bb, b), (Ba, a)]) := HV7.out.own ho hb
  have HB8 : Hid (Below w.heap.size w w8) := HB7.out.trans (hb.mono HB7.out.size)
  clear ho hb HV7
  go_wp2_with fail
  refine (told_any _).mono ?_
  rintro e w9 ⟨rfl, hb⟩
  have HV9 : Hid (Vs w9 [(Am, m), (Aj, j), (Az, c), (Ay, b), (Ax, a), (Bc, c), (Bb, b), (Ba, a)]) := HV8.out.keep hb
  have HB9 : Hid (Below w.heap.size w w9) := HB8.out.trans (hb.mono HB8.out.size)
  clear hb HV8
  go_wp2_with fail
  refine (from_any Aj j.length cj j w9.heap.size _ (Nat.le_refl _) (HV9.out.get (by simp)) (by omega)).mono ?_
  rintro e w10 ⟨Af, cf, rfl, hcf, ho, hb⟩
  have HV10 : Hid (Vs w10 [(Af, j), (Am, m), (Aj, j), (Az, c), (Ay, b), (Ax, a), (Bc, c), (Bb, b), (Ba, a)]) := HV9.out.own ho hb
  have HB10 : Hid (Below w.heap.size w w10) := HB9.out.trans (hb.mono HB9.out.size)
  clear ho hb HV9
  go_wp2_with fail
  refine (rjoin_any Ba a.length da a Bb b.length db b w10.heap.size _ (Nat.le_refl _) (HV10.out.get (by simp)) (HV10.out.get (by simp)) (by omega) (by omega) Ga.out Gb.out).mono ?_
  rw [Ej.out]
  rintro e w11 ⟨Ag, cg, rfl, hcg, ho, hb⟩
  have HV11 : Hid (Vs w11 [(Ag, j), (Af, j), (Am, m), (Aj, j), (Az, c), (Ay, b), (Ax, a), (Bc, c), (Bb, b), (Ba, a)]) := HV10.out.own ho hb
  have HB11 : Hid (Below w.heap.size w w11) := HB10.out.trans (hb.mono HB10.out.size)
  clear ho hb HV10
  go_wp2_with fail
  refine (rsame_any Af j.length cf j Ag j.length cg j w11.heap.size _ (HV11.out.get (by simp)) (HV11.out.get (by simp)) (by omega) (by omega)).mono ?_
  rw [same_self]
  rintro e w12 ⟨rfl, hd⟩
  have hb := drawn_below hd.out w11.heap.size
  clear hd
  have HV12 : Hid (Vs w12 [(Ag, j), (Af, j), (Am, m), (Aj, j), (Az, c), (Ay, b), (Ax, a), (Bc, c), (Bb, b), (Ba, a)]) := HV11.out.keep hb
  have HB12 : Hid (Below w.heap.size w w12) := HB11.out.trans (hb.mono HB11.out.size)
  clear hb HV11
  go_wp2_with fail
  refine (from_any Am m.length cm m w12.heap.size _ (Nat.le_refl _) (HV12.out.get (by simp)) (by omega)).mono ?_
  rintro e w13 ⟨Ap, cp, rfl, hcp, ho, hb⟩
  have HV13 : Hid (Vs w13 [(Ap, m), (Ag, j), (Af, j), (Am, m), (Aj, j), (Az, c), (Ay, b), (Ax, a), (Bc, c), (Bb, b), (Ba, a)]) := HV12.out.own ho hb
  have HB13 : Hid (Below w.heap.size w w13) := HB12.out.trans (hb.mono HB12.out.size)
  clear ho hb HV12
  go_wp2_with fail
  refine (rmeet_any Ba a.length da a Bb b.length db b w13.heap.size _ (Nat.le_refl _) (HV13.out.get (by simp)) (HV13.out.get (by simp)) (by omega) (by omega) Ga.out Gb.out).mono ?_
  rw [Em.out]
  rintro e w14 ⟨Aq, cq, rfl, hcq, ho, hb⟩
  have HV14 : Hid (Vs w14 [(Aq, m), (Ap, m), (Ag, j), (Af, j), (Am, m), (Aj, j), (Az, c), (Ay, b), (Ax, a), (Bc, c), (Bb, b), (Ba, a)]) := HV13.out.own ho hb
  have HB14 : Hid (Below w.heap.size w w14) := HB13.out.trans (hb.mono HB13.out.size)
  clear ho hb HV13
  go_wp2_with fail
  refine (rsame_any Ap m.length cp m Aq m.length cq m w14.heap.size _ (HV14.out.get (by simp)) (HV14.out.get (by simp)) (by omega) (by omega)).mono ?_
  rw [same_self]
  rintro e w15 ⟨rfl, hd⟩
  have hb := drawn_below hd.out w14.heap.size
  clear hd
  have HV15 : Hid (Vs w15 [(Aq, m), (Ap, m), (Ag, j), (Af, j), (Am, m), (Aj, j), (Az, c), (Ay, b), (Ax, a), (Bc, c), (Bb, b), (Ba, a)]) := HV14.out.keep hb
  have HB15 : Hid (Below w.heap.size w w15) := HB14.out.trans (hb.mono HB14.out.size)
  clear hb HV14
  go_wp2_with fail
  refine (within_any Ax a.length cx a Ay b.length cy b w15.heap.size _ (Nat.le_refl _) (HV15.out.get (by simp)) (HV15.out.get (by simp)) (by omega) (by omega) Gb.out.1).mono ?_
  rw [P5.out]
  rintro e w16 ⟨rfl, hb⟩
  have HV16 : Hid (Vs w16 [(Aq, m), (Ap, m), (Ag, j), (Af, j), (Am, m), (Aj, j), (Az, c), (Ay, b), (Ax, a), (Bc, c), (Bb, b), (Ba, a)]) := HV15.out.keep hb
  have HB16 : Hid (Below w.heap.size w w16) := HB15.out.trans (hb.mono HB15.out.size)
  clear hb HV15
  go_wp2_with fail
  refine (rwithin_any Ba a.length da a Bb b.length db b w16.heap.size _ (HV16.out.get (by simp)) (HV16.out.get (by simp)) (by omega) (by omega)).mono ?_
  rw [P5.out]
  rintro e w17 ⟨rfl, hd⟩
  have hb := drawn_below hd.out w16.heap.size
  clear hd
  have HV17 : Hid (Vs w17 [(Aq, m), (Ap, m), (Ag, j), (Af, j), (Am, m), (Aj, j), (Az, c), (Ay, b), (Ax, a), (Bc, c), (Bb, b), (Ba, a)]) := HV16.out.keep hb
  have HB17 : Hid (Below w.heap.size w w17) := HB16.out.trans (hb.mono HB16.out.size)
  clear hb HV16
  go_wp2_with fail
  refine (same_any Ax a.length cx a Ay b.length cy b w17.heap.size _ (HV17.out.get (by simp)) (HV17.out.get (by simp)) (by omega) (by omega)).mono ?_
  rw [P6.out]
  rintro e w18 ⟨rfl, hd⟩
  have hb := drawn_below hd.out w17.heap.size
  clear hd
  have HV18 : Hid (Vs w18 [(Aq, m), (Ap, m), (Ag, j), (Af, j), (Am, m), (Aj, j), (Az, c), (Ay, b), (Ax, a), (Bc, c), (Bb, b), (Ba, a)]) := HV17.out.keep hb
  have HB18 : Hid (Below w.heap.size w w18) := HB17.out.trans (hb.mono HB17.out.size)
  clear hb HV17
  go_wp2_with fail
  refine (rsame_any Ba a.length da a Bb b.length db b w18.heap.size _ (HV18.out.get (by simp)) (HV18.out.get (by simp)) (by omega) (by omega)).mono ?_
  rw [P6.out]
  rintro e w19 ⟨rfl, hd⟩
  have hb := drawn_below hd.out w18.heap.size
  clear hd
  have HV19 : Hid (Vs w19 [(Aq, m), (Ap, m), (Ag, j), (Af, j), (Am, m), (Aj, j), (Az, c), (Ay, b), (Ax, a), (Bc, c), (Bb, b), (Ba, a)]) := HV18.out.keep hb
  have HB19 : Hid (Below w.heap.size w w19) := HB18.out.trans (hb.mono HB18.out.size)
  clear hb HV18
  go_wp2_with fail
  refine (rightv_any Aj j.length cj j w19.heap.size _ (Nat.le_refl _) (HV19.out.get (by simp)) (by omega)).mono ?_
  rw [R1.out]
  rintro e w20 ⟨rfl, hb⟩
  have HV20 : Hid (Vs w20 [(Aq, m), (Ap, m), (Ag, j), (Af, j), (Am, m), (Aj, j), (Az, c), (Ay, b), (Ax, a), (Bc, c), (Bb, b), (Ba, a)]) := HV19.out.keep hb
  have HB20 : Hid (Below w.heap.size w w20) := HB19.out.trans (hb.mono HB19.out.size)
  clear hb HV19
  go_wp2_with fail
  refine (rightv_any Am m.length cm m w20.heap.size _ (Nat.le_refl _) (HV20.out.get (by simp)) (by omega)).mono ?_
  rw [R2.out]
  rintro e w21 ⟨rfl, hb⟩
  have HV21 : Hid (Vs w21 [(Aq, m), (Ap, m), (Ag, j), (Af, j), (Am, m), (Aj, j), (Az, c), (Ay, b), (Ax, a), (Bc, c), (Bb, b), (Ba, a)]) := HV20.out.keep hb
  have HB21 : Hid (Below w.heap.size w w21) := HB20.out.trans (hb.mono HB20.out.size)
  clear hb HV20
  go_wp2_with fail
  refine (within_any Ax a.length cx a Aj j.length cj j w21.heap.size _ (Nat.le_refl _) (HV21.out.get (by simp)) (HV21.out.get (by simp)) (by omega) (by omega) Gj.out.1).mono ?_
  rw [W1.out]
  rintro e w22 ⟨rfl, hb⟩
  have HV22 : Hid (Vs w22 [(Aq, m), (Ap, m), (Ag, j), (Af, j), (Am, m), (Aj, j), (Az, c), (Ay, b), (Ax, a), (Bc, c), (Bb, b), (Ba, a)]) := HV21.out.keep hb
  have HB22 : Hid (Below w.heap.size w w22) := HB21.out.trans (hb.mono HB21.out.size)
  clear hb HV21
  go_wp2_with fail
  refine (within_any Ay b.length cy b Aj j.length cj j w22.heap.size _ (Nat.le_refl _) (HV22.out.get (by simp)) (HV22.out.get (by simp)) (by omega) (by omega) Gj.out.1).mono ?_
  rw [W2.out]
  rintro e w23 ⟨rfl, hb⟩
  have HV23 : Hid (Vs w23 [(Aq, m), (Ap, m), (Ag, j), (Af, j), (Am, m), (Aj, j), (Az, c), (Ay, b), (Ax, a), (Bc, c), (Bb, b), (Ba, a)]) := HV22.out.keep hb
  have HB23 : Hid (Below w.heap.size w w23) := HB22.out.trans (hb.mono HB22.out.size)
  clear hb HV22
  go_wp2_with fail
  refine (within_any Am m.length cm m Ax a.length cx a w23.heap.size _ (Nat.le_refl _) (HV23.out.get (by simp)) (HV23.out.get (by simp)) (by omega) (by omega) Ga.out.1).mono ?_
  rw [W3.out]
  rintro e w24 ⟨rfl, hb⟩
  have HV24 : Hid (Vs w24 [(Aq, m), (Ap, m), (Ag, j), (Af, j), (Am, m), (Aj, j), (Az, c), (Ay, b), (Ax, a), (Bc, c), (Bb, b), (Ba, a)]) := HV23.out.keep hb
  have HB24 : Hid (Below w.heap.size w w24) := HB23.out.trans (hb.mono HB23.out.size)
  clear hb HV23
  go_wp2_with fail
  refine (within_any Am m.length cm m Ay b.length cy b w24.heap.size _ (Nat.le_refl _) (HV24.out.get (by simp)) (HV24.out.get (by simp)) (by omega) (by omega) Gb.out.1).mono ?_
  rw [W4.out]
  rintro e w25 ⟨rfl, hb⟩
  have HV25 : Hid (Vs w25 [(Aq, m), (Ap, m), (Ag, j), (Af, j), (Am, m), (Aj, j), (Az, c), (Ay, b), (Ax, a), (Bc, c), (Bb, b), (Ba, a)]) := HV24.out.keep hb
  have HB25 : Hid (Below w.heap.size w w25) := HB24.out.trans (hb.mono HB24.out.size)
  clear hb HV24
  cases p1
  · cases p3
    · skip
      go_wp2_with fail
      refine (within_any Aj j.length cj j Az c.length cz c w25.heap.size _ (Nat.le_refl _) (HV25.out.get (by simp)) (HV25.out.get (by simp)) (by omega) (by omega) Gc.out.1).mono ?_
      rw [P7.out]
      rintro e w26 ⟨rfl, hb⟩
      have HV26 : Hid (Vs w26 [(Aq, m), (Ap, m), (Ag, j), (Af, j), (Am, m), (Aj, j), (Az, c), (Ay, b), (Ax, a), (Bc, c), (Bb, b), (Ba, a)]) := HV25.out.keep hb
      have HB26 : Hid (Below w.heap.size w w26) := HB25.out.trans (hb.mono HB25.out.size)
      clear hb HV25
      go_wp2_with fail
      refine (within_any Ax a.length cx a Az c.length cz c w26.heap.size _ (Nat.le_refl _) (HV26.out.get (by simp)) (HV26.out.get (by simp)) (by omega) (by omega) Gc.out.1).mono ?_
      rw [P1.out]
      rintro e w27 ⟨rfl, hb⟩
      have HV27 : Hid (Vs w27 [(Aq, m), (Ap, m), (Ag, j), (Af, j), (Am, m), (Aj, j), (Az, c), (Ay, b), (Ax, a), (Bc, c), (Bb, b), (Ba, a)]) := HV26.out.keep hb
      have HB27 : Hid (Below w.heap.size w w27) := HB26.out.trans (hb.mono HB26.out.size)
      clear hb HV26
      go_wp2_with fail
      refine (within_any Az c.length cz c Am m.length cm m w27.heap.size _ (Nat.le_refl _) (HV27.out.get (by simp)) (HV27.out.get (by simp)) (by omega) (by omega) Gm.out.1).mono ?_
      rw [P8.out]
      rintro e w28 ⟨rfl, hb⟩
      have HV28 : Hid (Vs w28 [(Aq, m), (Ap, m), (Ag, j), (Af, j), (Am, m), (Aj, j), (Az, c), (Ay, b), (Ax, a), (Bc, c), (Bb, b), (Ba, a)]) := HV27.out.keep hb
      have HB28 : Hid (Below w.heap.size w w28) := HB27.out.trans (hb.mono HB27.out.size)
      clear hb HV27
      go_wp2_with fail
      refine (within_any Az c.length cz c Ax a.length cx a w28.heap.size _ (Nat.le_refl _) (HV28.out.get (by simp)) (HV28.out.get (by simp)) (by omega) (by omega) Ga.out.1).mono ?_
      rw [P3.out]
      rintro e w29 ⟨rfl, hb⟩
      have HV29 : Hid (Vs w29 [(Aq, m), (Ap, m), (Ag, j), (Af, j), (Am, m), (Aj, j), (Az, c), (Ay, b), (Ax, a), (Bc, c), (Bb, b), (Ba, a)]) := HV28.out.keep hb
      have HB29 : Hid (Below w.heap.size w w29) := HB28.out.trans (hb.mono HB28.out.size)
      clear hb HV28
      go_wp2
      go_ret
      exact ⟨rfl, HB29.out⟩
    · cases p4
      · skip
        go_wp2_with fail
        refine (within_any Aj j.length cj j Az c.length cz c w25.heap.size _ (Nat.le_refl _) (HV25.out.get (by simp)) (HV25.out.get (by simp)) (by omega) (by omega) Gc.out.1).mono ?_
        rw [P7.out]
        rintro e w26 ⟨rfl, hb⟩
        have HV26 : Hid (Vs w26 [(Aq, m), (Ap, m), (Ag, j), (Af, j), (Am, m), (Aj, j), (Az, c), (Ay, b), (Ax, a), (Bc, c), (Bb, b), (Ba, a)]) := HV25.out.keep hb
        have HB26 : Hid (Below w.heap.size w w26) := HB25.out.trans (hb.mono HB25.out.size)
        clear hb HV25
        go_wp2_with fail
        refine (within_any Ax a.length cx a Az c.length cz c w26.heap.size _ (Nat.le_refl _) (HV26.out.get (by simp)) (HV26.out.get (by simp)) (by omega) (by omega) Gc.out.1).mono ?_
        rw [P1.out]
        rintro e w27 ⟨rfl, hb⟩
        have HV27 : Hid (Vs w27 [(Aq, m), (Ap, m), (Ag, j), (Af, j), (Am, m), (Aj, j), (Az, c), (Ay, b), (Ax, a), (Bc, c), (Bb, b), (Ba, a)]) := HV26.out.keep hb
        have HB27 : Hid (Below w.heap.size w w27) := HB26.out.trans (hb.mono HB26.out.size)
        clear hb HV26
        go_wp2_with fail
        refine (within_any Az c.length cz c Am m.length cm m w27.heap.size _ (Nat.le_refl _) (HV27.out.get (by simp)) (HV27.out.get (by simp)) (by omega) (by omega) Gm.out.1).mono ?_
        rw [P8.out]
        rintro e w28 ⟨rfl, hb⟩
        have HV28 : Hid (Vs w28 [(Aq, m), (Ap, m), (Ag, j), (Af, j), (Am, m), (Aj, j), (Az, c), (Ay, b), (Ax, a), (Bc, c), (Bb, b), (Ba, a)]) := HV27.out.keep hb
        have HB28 : Hid (Below w.heap.size w w28) := HB27.out.trans (hb.mono HB27.out.size)
        clear hb HV27
        go_wp2_with fail
        refine (within_any Az c.length cz c Ax a.length cx a w28.heap.size _ (Nat.le_refl _) (HV28.out.get (by simp)) (HV28.out.get (by simp)) (by omega) (by omega) Ga.out.1).mono ?_
        rw [P3.out]
        rintro e w29 ⟨rfl, hb⟩
        have HV29 : Hid (Vs w29 [(Aq, m), (Ap, m), (Ag, j), (Af, j), (Am, m), (Aj, j), (Az, c), (Ay, b), (Ax, a), (Bc, c), (Bb, b), (Ba, a)]) := HV28.out.keep hb
        have HB29 : Hid (Below w.heap.size w w29) := HB28.out.trans (hb.mono HB28.out.size)
        clear hb HV28
        go_wp2_with fail
        refine (within_any Az c.length cz c Ay b.length cy b w29.heap.size _ (Nat.le_refl _) (HV29.out.get (by simp)) (HV29.out.get (by simp)) (by omega) (by omega) Gb.out.1).mono ?_
        rw [P4.out]
        rintro e w30 ⟨rfl, hb⟩
        have HV30 : Hid (Vs w30 [(Aq, m), (Ap, m), (Ag, j), (Af, j), (Am, m), (Aj, j), (Az, c), (Ay, b), (Ax, a), (Bc, c), (Bb, b), (Ba, a)]) := HV29.out.keep hb
        have HB30 : Hid (Below w.heap.size w w30) := HB29.out.trans (hb.mono HB29.out.size)
        clear hb HV29
        go_wp2
        go_ret
        exact ⟨rfl, HB30.out⟩
      · skip
        go_wp2_with fail
        refine (within_any Aj j.length cj j Az c.length cz c w25.heap.size _ (Nat.le_refl _) (HV25.out.get (by simp)) (HV25.out.get (by simp)) (by omega) (by omega) Gc.out.1).mono ?_
        rw [P7.out]
        rintro e w26 ⟨rfl, hb⟩
        have HV26 : Hid (Vs w26 [(Aq, m), (Ap, m), (Ag, j), (Af, j), (Am, m), (Aj, j), (Az, c), (Ay, b), (Ax, a), (Bc, c), (Bb, b), (Ba, a)]) := HV25.out.keep hb
        have HB26 : Hid (Below w.heap.size w w26) := HB25.out.trans (hb.mono HB25.out.size)
        clear hb HV25
        go_wp2_with fail
        refine (within_any Ax a.length cx a Az c.length cz c w26.heap.size _ (Nat.le_refl _) (HV26.out.get (by simp)) (HV26.out.get (by simp)) (by omega) (by omega) Gc.out.1).mono ?_
        rw [P1.out]
        rintro e w27 ⟨rfl, hb⟩
        have HV27 : Hid (Vs w27 [(Aq, m), (Ap, m), (Ag, j), (Af, j), (Am, m), (Aj, j), (Az, c), (Ay, b), (Ax, a), (Bc, c), (Bb, b), (Ba, a)]) := HV26.out.keep hb
        have HB27 : Hid (Below w.heap.size w w27) := HB26.out.trans (hb.mono HB26.out.size)
        clear hb HV26
        go_wp2_with fail
        refine (within_any Az c.length cz c Am m.length cm m w27.heap.size _ (Nat.le_refl _) (HV27.out.get (by simp)) (HV27.out.get (by simp)) (by omega) (by omega) Gm.out.1).mono ?_
        rw [P8.out]
        rintro e w28 ⟨rfl, hb⟩
        have HV28 : Hid (Vs w28 [(Aq, m), (Ap, m), (Ag, j), (Af, j), (Am, m), (Aj, j), (Az, c), (Ay, b), (Ax, a), (Bc, c), (Bb, b), (Ba, a)]) := HV27.out.keep hb
        have HB28 : Hid (Below w.heap.size w w28) := HB27.out.trans (hb.mono HB27.out.size)
        clear hb HV27
        go_wp2_with fail
        refine (within_any Az c.length cz c Ax a.length cx a w28.heap.size _ (Nat.le_refl _) (HV28.out.get (by simp)) (HV28.out.get (by simp)) (by omega) (by omega) Ga.out.1).mono ?_
        rw [P3.out]
        rintro e w29 ⟨rfl, hb⟩
        have HV29 : Hid (Vs w29 [(Aq, m), (Ap, m), (Ag, j), (Af, j), (Am, m), (Aj, j), (Az, c), (Ay, b), (Ax, a), (Bc, c), (Bb, b), (Ba, a)]) := HV28.out.keep hb
        have HB29 : Hid (Below w.heap.size w w29) := HB28.out.trans (hb.mono HB28.out.size)
        clear hb HV28
        go_wp2_with fail
        refine (within_any Az c.length cz c Ay b.length cy b w29.heap.size _ (Nat.le_refl _) (HV29.out.get (by simp)) (HV29.out.get (by simp)) (by omega) (by omega) Gb.out.1).mono ?_
        rw [P4.out]
        rintro e w30 ⟨rfl, hb⟩
        have HV30 : Hid (Vs w30 [(Aq, m), (Ap, m), (Ag, j), (Af, j), (Am, m), (Aj, j), (Az, c), (Ay, b), (Ax, a), (Bc, c), (Bb, b), (Ba, a)]) := HV29.out.keep hb
        have HB30 : Hid (Below w.heap.size w w30) := HB29.out.trans (hb.mono HB29.out.size)
        clear hb HV29
        go_wp2
        go_ret
        exact ⟨rfl, HB30.out⟩
  · cases p2
    · cases p3
      · skip
        go_wp2_with fail
        refine (within_any Aj j.length cj j Az c.length cz c w25.heap.size _ (Nat.le_refl _) (HV25.out.get (by simp)) (HV25.out.get (by simp)) (by omega) (by omega) Gc.out.1).mono ?_
        rw [P7.out]
        rintro e w26 ⟨rfl, hb⟩
        have HV26 : Hid (Vs w26 [(Aq, m), (Ap, m), (Ag, j), (Af, j), (Am, m), (Aj, j), (Az, c), (Ay, b), (Ax, a), (Bc, c), (Bb, b), (Ba, a)]) := HV25.out.keep hb
        have HB26 : Hid (Below w.heap.size w w26) := HB25.out.trans (hb.mono HB25.out.size)
        clear hb HV25
        go_wp2_with fail
        refine (within_any Ax a.length cx a Az c.length cz c w26.heap.size _ (Nat.le_refl _) (HV26.out.get (by simp)) (HV26.out.get (by simp)) (by omega) (by omega) Gc.out.1).mono ?_
        rw [P1.out]
        rintro e w27 ⟨rfl, hb⟩
        have HV27 : Hid (Vs w27 [(Aq, m), (Ap, m), (Ag, j), (Af, j), (Am, m), (Aj, j), (Az, c), (Ay, b), (Ax, a), (Bc, c), (Bb, b), (Ba, a)]) := HV26.out.keep hb
        have HB27 : Hid (Below w.heap.size w w27) := HB26.out.trans (hb.mono HB26.out.size)
        clear hb HV26
        go_wp2_with fail
        refine (within_any Ay b.length cy b Az c.length cz c w27.heap.size _ (Nat.le_refl _) (HV27.out.get (by simp)) (HV27.out.get (by simp)) (by omega) (by omega) Gc.out.1).mono ?_
        rw [P2.out]
        rintro e w28 ⟨rfl, hb⟩
        have HV28 : Hid (Vs w28 [(Aq, m), (Ap, m), (Ag, j), (Af, j), (Am, m), (Aj, j), (Az, c), (Ay, b), (Ax, a), (Bc, c), (Bb, b), (Ba, a)]) := HV27.out.keep hb
        have HB28 : Hid (Below w.heap.size w w28) := HB27.out.trans (hb.mono HB27.out.size)
        clear hb HV27
        go_wp2_with fail
        refine (within_any Az c.length cz c Am m.length cm m w28.heap.size _ (Nat.le_refl _) (HV28.out.get (by simp)) (HV28.out.get (by simp)) (by omega) (by omega) Gm.out.1).mono ?_
        rw [P8.out]
        rintro e w29 ⟨rfl, hb⟩
        have HV29 : Hid (Vs w29 [(Aq, m), (Ap, m), (Ag, j), (Af, j), (Am, m), (Aj, j), (Az, c), (Ay, b), (Ax, a), (Bc, c), (Bb, b), (Ba, a)]) := HV28.out.keep hb
        have HB29 : Hid (Below w.heap.size w w29) := HB28.out.trans (hb.mono HB28.out.size)
        clear hb HV28
        go_wp2_with fail
        refine (within_any Az c.length cz c Ax a.length cx a w29.heap.size _ (Nat.le_refl _) (HV29.out.get (by simp)) (HV29.out.get (by simp)) (by omega) (by omega) Ga.out.1).mono ?_
        rw [P3.out]
        rintro e w30 ⟨rfl, hb⟩
        have HV30 : Hid (Vs w30 [(Aq, m), (Ap, m), (Ag, j), (Af, j), (Am, m), (Aj, j), (Az, c), (Ay, b), (Ax, a), (Bc, c), (Bb, b), (Ba, a)]) := HV29.out.keep hb
        have HB30 : Hid (Below w.heap.size w w30) := HB29.out.trans (hb.mono HB29.out.size)
        clear hb HV29
        go_wp2
        go_ret
        exact ⟨rfl, HB30.out⟩
      · cases p4
        · skip
          go_wp2_with fail
          refine (within_any Aj j.length cj j Az c.length cz c w25.heap.size _ (Nat.le_refl _) (HV25.out.get (by simp)) (HV25.out.get (by simp)) (by omega) (by omega) Gc.out.1).mono ?_
          rw [P7.out]
          rintro e w26 ⟨rfl, hb⟩
          have HV26 : Hid (Vs w26 [(Aq, m), (Ap, m), (Ag, j), (Af, j), (Am, m), (Aj, j), (Az, c), (Ay, b), (Ax, a), (Bc, c), (Bb, b), (Ba, a)]) := HV25.out.keep hb
          have HB26 : Hid (Below w.heap.size w w26) := HB25.out.trans (hb.mono HB25.out.size)
          clear hb HV25
          go_wp2_with fail
          refine (within_any Ax a.length cx a Az c.length cz c w26.heap.size _ (Nat.le_refl _) (HV26.out.get (by simp)) (HV26.out.get (by simp)) (by omega) (by omega) Gc.out.1).mono ?_
          rw [P1.out]
          rintro e w27 ⟨rfl, hb⟩
          have HV27 : Hid (Vs w27 [(Aq, m), (Ap, m), (Ag, j), (Af, j), (Am, m), (Aj, j), (Az, c), (Ay, b), (Ax, a), (Bc, c), (Bb, b), (Ba, a)]) := HV26.out.keep hb
          have HB27 : Hid (Below w.heap.size w w27) := HB26.out.trans (hb.mono HB26.out.size)
          clear hb HV26
          go_wp2_with fail
          refine (within_any Ay b.length cy b Az c.length cz c w27.heap.size _ (Nat.le_refl _) (HV27.out.get (by simp)) (HV27.out.get (by simp)) (by omega) (by omega) Gc.out.1).mono ?_
          rw [P2.out]
          rintro e w28 ⟨rfl, hb⟩
          have HV28 : Hid (Vs w28 [(Aq, m), (Ap, m), (Ag, j), (Af, j), (Am, m), (Aj, j), (Az, c), (Ay, b), (Ax, a), (Bc, c), (Bb, b), (Ba, a)]) := HV27.out.keep hb
          have HB28 : Hid (Below w.heap.size w w28) := HB27.out.trans (hb.mono HB27.out.size)
          clear hb HV27
          go_wp2_with fail
          refine (within_any Az c.length cz c Am m.length cm m w28.heap.size _ (Nat.le_refl _) (HV28.out.get (by simp)) (HV28.out.get (by simp)) (by omega) (by omega) Gm.out.1).mono ?_
          rw [P8.out]
          rintro e w29 ⟨rfl, hb⟩
          have HV29 : Hid (Vs w29 [(Aq, m), (Ap, m), (Ag, j), (Af, j), (Am, m), (Aj, j), (Az, c), (Ay, b), (Ax, a), (Bc, c), (Bb, b), (Ba, a)]) := HV28.out.keep hb
          have HB29 : Hid (Below w.heap.size w w29) := HB28.out.trans (hb.mono HB28.out.size)
          clear hb HV28
          go_wp2_with fail
          refine (within_any Az c.length cz c Ax a.length cx a w29.heap.size _ (Nat.le_refl _) (HV29.out.get (by simp)) (HV29.out.get (by simp)) (by omega) (by omega) Ga.out.1).mono ?_
          rw [P3.out]
          rintro e w30 ⟨rfl, hb⟩
          have HV30 : Hid (Vs w30 [(Aq, m), (Ap, m), (Ag, j), (Af, j), (Am, m), (Aj, j), (Az, c), (Ay, b), (Ax, a), (Bc, c), (Bb, b), (Ba, a)]) := HV29.out.keep hb
          have HB30 : Hid (Below w.heap.size w w30) := HB29.out.trans (hb.mono HB29.out.size)
          clear hb HV29
          go_wp2_with fail
          refine (within_any Az c.length cz c Ay b.length cy b w30.heap.size _ (Nat.le_refl _) (HV30.out.get (by simp)) (HV30.out.get (by simp)) (by omega) (by omega) Gb.out.1).mono ?_
          rw [P4.out]
          rintro e w31 ⟨rfl, hb⟩
          have HV31 : Hid (Vs w31 [(Aq, m), (Ap, m), (Ag, j), (Af, j), (Am, m), (Aj, j), (Az, c), (Ay, b), (Ax, a), (Bc, c), (Bb, b), (Ba, a)]) := HV30.out.keep hb
          have HB31 : Hid (Below w.heap.size w w31) := HB30.out.trans (hb.mono HB30.out.size)
          clear hb HV30
          go_wp2
          go_ret
          exact ⟨rfl, HB31.out⟩
        · skip
          go_wp2_with fail
          refine (within_any Aj j.length cj j Az c.length cz c w25.heap.size _ (Nat.le_refl _) (HV25.out.get (by simp)) (HV25.out.get (by simp)) (by omega) (by omega) Gc.out.1).mono ?_
          rw [P7.out]
          rintro e w26 ⟨rfl, hb⟩
          have HV26 : Hid (Vs w26 [(Aq, m), (Ap, m), (Ag, j), (Af, j), (Am, m), (Aj, j), (Az, c), (Ay, b), (Ax, a), (Bc, c), (Bb, b), (Ba, a)]) := HV25.out.keep hb
          have HB26 : Hid (Below w.heap.size w w26) := HB25.out.trans (hb.mono HB25.out.size)
          clear hb HV25
          go_wp2_with fail
          refine (within_any Ax a.length cx a Az c.length cz c w26.heap.size _ (Nat.le_refl _) (HV26.out.get (by simp)) (HV26.out.get (by simp)) (by omega) (by omega) Gc.out.1).mono ?_
          rw [P1.out]
          rintro e w27 ⟨rfl, hb⟩
          have HV27 : Hid (Vs w27 [(Aq, m), (Ap, m), (Ag, j), (Af, j), (Am, m), (Aj, j), (Az, c), (Ay, b), (Ax, a), (Bc, c), (Bb, b), (Ba, a)]) := HV26.out.keep hb
          have HB27 : Hid (Below w.heap.size w w27) := HB26.out.trans (hb.mono HB26.out.size)
          clear hb HV26
          go_wp2_with fail
          refine (within_any Ay b.length cy b Az c.length cz c w27.heap.size _ (Nat.le_refl _) (HV27.out.get (by simp)) (HV27.out.get (by simp)) (by omega) (by omega) Gc.out.1).mono ?_
          rw [P2.out]
          rintro e w28 ⟨rfl, hb⟩
          have HV28 : Hid (Vs w28 [(Aq, m), (Ap, m), (Ag, j), (Af, j), (Am, m), (Aj, j), (Az, c), (Ay, b), (Ax, a), (Bc, c), (Bb, b), (Ba, a)]) := HV27.out.keep hb
          have HB28 : Hid (Below w.heap.size w w28) := HB27.out.trans (hb.mono HB27.out.size)
          clear hb HV27
          go_wp2_with fail
          refine (within_any Az c.length cz c Am m.length cm m w28.heap.size _ (Nat.le_refl _) (HV28.out.get (by simp)) (HV28.out.get (by simp)) (by omega) (by omega) Gm.out.1).mono ?_
          rw [P8.out]
          rintro e w29 ⟨rfl, hb⟩
          have HV29 : Hid (Vs w29 [(Aq, m), (Ap, m), (Ag, j), (Af, j), (Am, m), (Aj, j), (Az, c), (Ay, b), (Ax, a), (Bc, c), (Bb, b), (Ba, a)]) := HV28.out.keep hb
          have HB29 : Hid (Below w.heap.size w w29) := HB28.out.trans (hb.mono HB28.out.size)
          clear hb HV28
          go_wp2_with fail
          refine (within_any Az c.length cz c Ax a.length cx a w29.heap.size _ (Nat.le_refl _) (HV29.out.get (by simp)) (HV29.out.get (by simp)) (by omega) (by omega) Ga.out.1).mono ?_
          rw [P3.out]
          rintro e w30 ⟨rfl, hb⟩
          have HV30 : Hid (Vs w30 [(Aq, m), (Ap, m), (Ag, j), (Af, j), (Am, m), (Aj, j), (Az, c), (Ay, b), (Ax, a), (Bc, c), (Bb, b), (Ba, a)]) := HV29.out.keep hb
          have HB30 : Hid (Below w.heap.size w w30) := HB29.out.trans (hb.mono HB29.out.size)
          clear hb HV29
          go_wp2_with fail
          refine (within_any Az c.length cz c Ay b.length cy b w30.heap.size _ (Nat.le_refl _) (HV30.out.get (by simp)) (HV30.out.get (by simp)) (by omega) (by omega) Gb.out.1).mono ?_
          rw [P4.out]
          rintro e w31 ⟨rfl, hb⟩
          have HV31 : Hid (Vs w31 [(Aq, m), (Ap, m), (Ag, j), (Af, j), (Am, m), (Aj, j), (Az, c), (Ay, b), (Ax, a), (Bc, c), (Bb, b), (Ba, a)]) := HV30.out.keep hb
          have HB31 : Hid (Below w.heap.size w w31) := HB30.out.trans (hb.mono HB30.out.size)
          clear hb HV30
          go_wp2
          go_ret
          exact ⟨rfl, HB31.out⟩
    · cases p3
      · skip
        go_wp2_with fail
        refine (within_any Aj j.length cj j Az c.length cz c w25.heap.size _ (Nat.le_refl _) (HV25.out.get (by simp)) (HV25.out.get (by simp)) (by omega) (by omega) Gc.out.1).mono ?_
        rw [P7.out]
        rintro e w26 ⟨rfl, hb⟩
        have HV26 : Hid (Vs w26 [(Aq, m), (Ap, m), (Ag, j), (Af, j), (Am, m), (Aj, j), (Az, c), (Ay, b), (Ax, a), (Bc, c), (Bb, b), (Ba, a)]) := HV25.out.keep hb
        have HB26 : Hid (Below w.heap.size w w26) := HB25.out.trans (hb.mono HB25.out.size)
        clear hb HV25
        go_wp2_with fail
        refine (within_any Ax a.length cx a Az c.length cz c w26.heap.size _ (Nat.le_refl _) (HV26.out.get (by simp)) (HV26.out.get (by simp)) (by omega) (by omega) Gc.out.1).mono ?_
        rw [P1.out]
        rintro e w27 ⟨rfl, hb⟩
        have HV27 : Hid (Vs w27 [(Aq, m), (Ap, m), (Ag, j), (Af, j), (Am, m), (Aj, j), (Az, c), (Ay, b), (Ax, a), (Bc, c), (Bb, b), (Ba, a)]) := HV26.out.keep hb
        have HB27 : Hid (Below w.heap.size w w27) := HB26.out.trans (hb.mono HB26.out.size)
        clear hb HV26
        go_wp2_with fail
        refine (within_any Ay b.length cy b Az c.length cz c w27.heap.size _ (Nat.le_refl _) (HV27.out.get (by simp)) (HV27.out.get (by simp)) (by omega) (by omega) Gc.out.1).mono ?_
        rw [P2.out]
        rintro e w28 ⟨rfl, hb⟩
        have HV28 : Hid (Vs w28 [(Aq, m), (Ap, m), (Ag, j), (Af, j), (Am, m), (Aj, j), (Az, c), (Ay, b), (Ax, a), (Bc, c), (Bb, b), (Ba, a)]) := HV27.out.keep hb
        have HB28 : Hid (Below w.heap.size w w28) := HB27.out.trans (hb.mono HB27.out.size)
        clear hb HV27
        go_wp2_with fail
        refine (within_any Az c.length cz c Am m.length cm m w28.heap.size _ (Nat.le_refl _) (HV28.out.get (by simp)) (HV28.out.get (by simp)) (by omega) (by omega) Gm.out.1).mono ?_
        rw [P8.out]
        rintro e w29 ⟨rfl, hb⟩
        have HV29 : Hid (Vs w29 [(Aq, m), (Ap, m), (Ag, j), (Af, j), (Am, m), (Aj, j), (Az, c), (Ay, b), (Ax, a), (Bc, c), (Bb, b), (Ba, a)]) := HV28.out.keep hb
        have HB29 : Hid (Below w.heap.size w w29) := HB28.out.trans (hb.mono HB28.out.size)
        clear hb HV28
        go_wp2_with fail
        refine (within_any Az c.length cz c Ax a.length cx a w29.heap.size _ (Nat.le_refl _) (HV29.out.get (by simp)) (HV29.out.get (by simp)) (by omega) (by omega) Ga.out.1).mono ?_
        rw [P3.out]
        rintro e w30 ⟨rfl, hb⟩
        have HV30 : Hid (Vs w30 [(Aq, m), (Ap, m), (Ag, j), (Af, j), (Am, m), (Aj, j), (Az, c), (Ay, b), (Ax, a), (Bc, c), (Bb, b), (Ba, a)]) := HV29.out.keep hb
        have HB30 : Hid (Below w.heap.size w w30) := HB29.out.trans (hb.mono HB29.out.size)
        clear hb HV29
        go_wp2
        go_ret
        exact ⟨rfl, HB30.out⟩
      · cases p4
        · skip
          go_wp2_with fail
          refine (within_any Aj j.length cj j Az c.length cz c w25.heap.size _ (Nat.le_refl _) (HV25.out.get (by simp)) (HV25.out.get (by simp)) (by omega) (by omega) Gc.out.1).mono ?_
          rw [P7.out]
          rintro e w26 ⟨rfl, hb⟩
          have HV26 : Hid (Vs w26 [(Aq, m), (Ap, m), (Ag, j), (Af, j), (Am, m), (Aj, j), (Az, c), (Ay, b), (Ax, a), (Bc, c), (Bb, b), (Ba, a)]) := HV25.out.keep hb
          have HB26 : Hid (Below w.heap.size w w26) := HB25.out.trans (hb.mono HB25.out.size)
          clear hb HV25
          go_wp2_with fail
          refine (within_any Ax a.length cx a Az c.length cz c w26.heap.size _ (Nat.le_refl _) (HV26.out.get (by simp)) (HV26.out.get (by simp)) (by omega) (by omega) Gc.out.1).mono ?_
          rw [P1.out]
          rintro e w27 ⟨rfl, hb⟩
          have HV27 : Hid (Vs w27 [(Aq, m), (Ap, m), (Ag, j), (Af, j), (Am, m), (Aj, j), (Az, c), (Ay, b), (Ax, a), (Bc, c), (Bb, b), (Ba, a)]) := HV26.out.keep hb
          have HB27 : Hid (Below w.heap.size w w27) := HB26.out.trans (hb.mono HB26.out.size)
          clear hb HV26
          go_wp2_with fail
          refine (within_any Ay b.length cy b Az c.length cz c w27.heap.size _ (Nat.le_refl _) (HV27.out.get (by simp)) (HV27.out.get (by simp)) (by omega) (by omega) Gc.out.1).mono ?_
          rw [P2.out]
          rintro e w28 ⟨rfl, hb⟩
          have HV28 : Hid (Vs w28 [(Aq, m), (Ap, m), (Ag, j), (Af, j), (Am, m), (Aj, j), (Az, c), (Ay, b), (Ax, a), (Bc, c), (Bb, b), (Ba, a)]) := HV27.out.keep hb
          have HB28 : Hid (Below w.heap.size w w28) := HB27.out.trans (hb.mono HB27.out.size)
          clear hb HV27
          go_wp2_with fail
          refine (within_any Az c.length cz c Am m.length cm m w28.heap.size _ (Nat.le_refl _) (HV28.out.get (by simp)) (HV28.out.get (by simp)) (by omega) (by omega) Gm.out.1).mono ?_
          rw [P8.out]
          rintro e w29 ⟨rfl, hb⟩
          have HV29 : Hid (Vs w29 [(Aq, m), (Ap, m), (Ag, j), (Af, j), (Am, m), (Aj, j), (Az, c), (Ay, b), (Ax, a), (Bc, c), (Bb, b), (Ba, a)]) := HV28.out.keep hb
          have HB29 : Hid (Below w.heap.size w w29) := HB28.out.trans (hb.mono HB28.out.size)
          clear hb HV28
          go_wp2_with fail
          refine (within_any Az c.length cz c Ax a.length cx a w29.heap.size _ (Nat.le_refl _) (HV29.out.get (by simp)) (HV29.out.get (by simp)) (by omega) (by omega) Ga.out.1).mono ?_
          rw [P3.out]
          rintro e w30 ⟨rfl, hb⟩
          have HV30 : Hid (Vs w30 [(Aq, m), (Ap, m), (Ag, j), (Af, j), (Am, m), (Aj, j), (Az, c), (Ay, b), (Ax, a), (Bc, c), (Bb, b), (Ba, a)]) := HV29.out.keep hb
          have HB30 : Hid (Below w.heap.size w w30) := HB29.out.trans (hb.mono HB29.out.size)
          clear hb HV29
          go_wp2_with fail
          refine (within_any Az c.length cz c Ay b.length cy b w30.heap.size _ (Nat.le_refl _) (HV30.out.get (by simp)) (HV30.out.get (by simp)) (by omega) (by omega) Gb.out.1).mono ?_
          rw [P4.out]
          rintro e w31 ⟨rfl, hb⟩
          have HV31 : Hid (Vs w31 [(Aq, m), (Ap, m), (Ag, j), (Af, j), (Am, m), (Aj, j), (Az, c), (Ay, b), (Ax, a), (Bc, c), (Bb, b), (Ba, a)]) := HV30.out.keep hb
          have HB31 : Hid (Below w.heap.size w w31) := HB30.out.trans (hb.mono HB30.out.size)
          clear hb HV30
          go_wp2
          go_ret
          exact ⟨rfl, HB31.out⟩
        · skip
          go_wp2_with fail
          refine (within_any Aj j.length cj j Az c.length cz c w25.heap.size _ (Nat.le_refl _) (HV25.out.get (by simp)) (HV25.out.get (by simp)) (by omega) (by omega) Gc.out.1).mono ?_
          rw [P7.out]
          rintro e w26 ⟨rfl, hb⟩
          have HV26 : Hid (Vs w26 [(Aq, m), (Ap, m), (Ag, j), (Af, j), (Am, m), (Aj, j), (Az, c), (Ay, b), (Ax, a), (Bc, c), (Bb, b), (Ba, a)]) := HV25.out.keep hb
          have HB26 : Hid (Below w.heap.size w w26) := HB25.out.trans (hb.mono HB25.out.size)
          clear hb HV25
          go_wp2_with fail
          refine (within_any Ax a.length cx a Az c.length cz c w26.heap.size _ (Nat.le_refl _) (HV26.out.get (by simp)) (HV26.out.get (by simp)) (by omega) (by omega) Gc.out.1).mono ?_
          rw [P1.out]
          rintro e w27 ⟨rfl, hb⟩
          have HV27 : Hid (Vs w27 [(Aq, m), (Ap, m), (Ag, j), (Af, j), (Am, m), (Aj, j), (Az, c), (Ay, b), (Ax, a), (Bc, c), (Bb, b), (Ba, a)]) := HV26.out.keep hb
          have HB27 : Hid (Below w.heap.size w w27) := HB26.out.trans (hb.mono HB26.out.size)
          clear hb HV26
          go_wp2_with fail
          refine (within_any Ay b.length cy b Az c.length cz c w27.heap.size _ (Nat.le_refl _) (HV27.out.get (by simp)) (HV27.out.get (by simp)) (by omega) (by omega) Gc.out.1).mono ?_
          rw [P2.out]
          rintro e w28 ⟨rfl, hb⟩
          have HV28 : Hid (Vs w28 [(Aq, m), (Ap, m), (Ag, j), (Af, j), (Am, m), (Aj, j), (Az, c), (Ay, b), (Ax, a), (Bc, c), (Bb, b), (Ba, a)]) := HV27.out.keep hb
          have HB28 : Hid (Below w.heap.size w w28) := HB27.out.trans (hb.mono HB27.out.size)
          clear hb HV27
          go_wp2_with fail
          refine (within_any Az c.length cz c Am m.length cm m w28.heap.size _ (Nat.le_refl _) (HV28.out.get (by simp)) (HV28.out.get (by simp)) (by omega) (by omega) Gm.out.1).mono ?_
          rw [P8.out]
          rintro e w29 ⟨rfl, hb⟩
          have HV29 : Hid (Vs w29 [(Aq, m), (Ap, m), (Ag, j), (Af, j), (Am, m), (Aj, j), (Az, c), (Ay, b), (Ax, a), (Bc, c), (Bb, b), (Ba, a)]) := HV28.out.keep hb
          have HB29 : Hid (Below w.heap.size w w29) := HB28.out.trans (hb.mono HB28.out.size)
          clear hb HV28
          go_wp2_with fail
          refine (within_any Az c.length cz c Ax a.length cx a w29.heap.size _ (Nat.le_refl _) (HV29.out.get (by simp)) (HV29.out.get (by simp)) (by omega) (by omega) Ga.out.1).mono ?_
          rw [P3.out]
          rintro e w30 ⟨rfl, hb⟩
          have HV30 : Hid (Vs w30 [(Aq, m), (Ap, m), (Ag, j), (Af, j), (Am, m), (Aj, j), (Az, c), (Ay, b), (Ax, a), (Bc, c), (Bb, b), (Ba, a)]) := HV29.out.keep hb
          have HB30 : Hid (Below w.heap.size w w30) := HB29.out.trans (hb.mono HB29.out.size)
          clear hb HV29
          go_wp2_with fail
          refine (within_any Az c.length cz c Ay b.length cy b w30.heap.size _ (Nat.le_refl _) (HV30.out.get (by simp)) (HV30.out.get (by simp)) (by omega) (by omega) Gb.out.1).mono ?_
          rw [P4.out]
          rintro e w31 ⟨rfl, hb⟩
          have HV31 : Hid (Vs w31 [(Aq, m), (Ap, m), (Ag, j), (Af, j), (Am, m), (Aj, j), (Az, c), (Ay, b), (Ax, a), (Bc, c), (Bb, b), (Ba, a)]) := HV30.out.keep hb
          have HB31 : Hid (Below w.heap.size w w31) := HB30.out.trans (hb.mono HB30.out.size)
          clear hb HV30
          go_wp2
          go_ret
          exact ⟨rfl, HB31.out⟩
end Go.Proofs.Ythjmadlinkcphaa
