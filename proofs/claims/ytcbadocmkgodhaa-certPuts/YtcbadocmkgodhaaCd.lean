/- The law CertPuts walked. -/
import Derived.Test.YtcbadocmkgodhaaCc
namespace Go.Proofs.Ytcbadocmkgodhaa
open Go.RowKit

theorem ofF_set {zs : List At} (h : Good zs) {a : ByteArray} {m : Int} (h1 : 1 ≤ m) (h2 : m ≤ 1048576) : ofF (setF zs a m) a = if rightL a.data.toList = true then max (ofF zs a) m else ofF zs a := by
  unfold setF
  by_cases hr : rightL a.data.toList = true
  · rw [if_pos ⟨hr, h1⟩, if_pos hr, ofF_join h.1 (rising_one _) h.pos (pos_one (by simp; omega)), show min m 1048576 = m by omega]
    rw [ofF_head (a, m) []]
  · rw [if_neg (fun e => hr e.1), if_neg hr]
theorem gone_set {zs : List At} (h : Good zs) (a : ByteArray) (n : Int) : goneF (setF zs a (oneMore n)) a = (goneF zs a || rightL a.data.toList) := by
  have hb := oneMore_bounds n
  unfold goneF
  rw [ofF_set h hb.1 hb.2]
  cases hr : rightL a.data.toList
  · simp
  · rw [if_pos rfl, Bool.or_true, decide_eq_true_iff]; omega

set_option maxRecDepth 100000 in
set_option maxHeartbeats 16000000 in
theorem certPuts_walk (A0 : Option Addr) (n0 c0 : Nat) (z0 : List At) (a : ByteArray) (x : Int) (w : World) (hz : VecAt w w.heap.size A0 n0 z0) (_hc : n0 ≤ c0) (_hs : Short z0) (_hn : n0 ≤ 9223372036854775807) (_ha : a.size ≤ 9223372036854775807) :
    Calls Try.prog 3 #[.slice A0 n0 c0, .string a, .int .i64 x] w fun e w' => e = .returned (.bool true) ∧ Below w.heap.size w w' := by
  have HZ0 := Lib.hid hz
  clear hz _hc _hs _hn _ha
  go_enter Try.func3, Try.ntmps3
  go_wp2_with fail
  refine (fixv_any A0 n0 c0 z0 w.heap.size _ (Nat.le_refl _) HZ0.out).mono ?_
  rintro e w1 ⟨v, gv, lv, Bv, dv, rfl, hdv, ho, hb⟩
  have Gv := Lib.hid gv
  clear gv
  have HV1 : Hid (Vs w1 [(Bv, v)]) := Vs.own (Vs.nil _) ho hb
  have HB1 : Hid (Below w.heap.size w w1) := hb
  clear ho hb
  obtain ⟨s, hs⟩ : ∃ s, setF v a (oneMore x) = s := ⟨_, rfl⟩
  have ls : s.length ≤ 13 := by rw [← hs]; have := set_len v a (oneMore x); omega
  have Gs : Hid (Good s) := by show Good s; rw [← hs]; exact Gv.out.set a _
  have HGY : Hid (goneF s a = (goneF v a || rightL a.data.toList)) := by show _ = _; rw [← hs]; exact gone_set Gv.out a x
  obtain ⟨g, hg⟩ : ∃ g, goneF v a = g := ⟨_, rfl⟩
  obtain ⟨r, hr⟩ : ∃ r, rightL a.data.toList = r := ⟨_, rfl⟩
  obtain ⟨l, hl⟩ : ∃ l, lastF v a = l := ⟨_, rfl⟩
  obtain ⟨m, hm⟩ : ∃ m, lastF s a = m := ⟨_, rfl⟩
  rw [hg, hr] at HGY
  have HS := Lib.hid hs
  have HG := Lib.hid hg
  have HR := Lib.hid hr
  have HL := Lib.hid hl
  have HM := Lib.hid hm
  clear hs hg hr hl hm
  have RS := good_right Gs.out
  have hov := good_ofF Gv.out a
  have hos := good_ofF Gs.out a
  have HOV := Lib.hid hov
  have HOS := Lib.hid hos
  clear hov hos
  go_wp2_with fail
  refine (to_any Bv v.length dv v w1.heap.size _ (Nat.le_refl _) (HV1.out.get (by simp)) (by omega)).mono ?_
  rintro e w2 ⟨Ax, cx, rfl, hcx, ho, hb⟩
  have HV2 : Hid (Vs w2 [(Ax, v), (Bv, v)]) := HV1.out.own ho hb
  have HB2 : Hid (Below w.heap.size w w2) := HB1.out.trans (hb.mono HB1.out.size)
  clear ho hb HV1
  go_wp2_with fail
  refine (cput_any Ax v.length cx v a x w2.heap.size _ (Nat.le_refl _) (HV2.out.get (by simp)) hcx (by omega)).mono ?_
  rw [HS.out]
  rintro e w3 ⟨As, cs, rfl, hcs, ho, hb⟩
  have HV3 : Hid (Vs w3 [(As, s), (Ax, v), (Bv, v)]) := HV2.out.own ho hb
  have HB3 : Hid (Below w.heap.size w w3) := HB2.out.trans (hb.mono HB2.out.size)
  clear ho hb HV2
  go_wp2_with fail
  refine (rput_any Bv v.length dv v a x w3.heap.size _ (Nat.le_refl _) (HV3.out.get (by simp)) (by omega) Gv.out).mono ?_
  rw [HS.out]
  rintro e w4 ⟨Ar, cr, rfl, hcr, ho, hb⟩
  have HV4 : Hid (Vs w4 [(Ar, s), (As, s), (Ax, v), (Bv, v)]) := HV3.out.own ho hb
  have HB4 : Hid (Below w.heap.size w w4) := HB3.out.trans (hb.mono HB3.out.size)
  clear ho hb HV3
  go_wp2_with fail
  refine (ctold_any _).mono ?_
  rintro e w5 ⟨rfl, hb⟩
  have HV5 : Hid (Vs w5 [(Ar, s), (As, s), (Ax, v), (Bv, v)]) := HV4.out.keep hb
  have HB5 : Hid (Below w.heap.size w w5) := HB4.out.trans (hb.mono HB4.out.size)
  clear hb HV4
  go_wp2_with fail
  refine (from_any As s.length cs s w5.heap.size _ (Nat.le_refl _) (HV5.out.get (by simp)) (by omega)).mono ?_
  rintro e w6 ⟨Af, cf, rfl, hcf, ho, hb⟩
  have HV6 : Hid (Vs w6 [(Af, s), (Ar, s), (As, s), (Ax, v), (Bv, v)]) := HV5.out.own ho hb
  have HB6 : Hid (Below w.heap.size w w6) := HB5.out.trans (hb.mono HB5.out.size)
  clear ho hb HV5
  go_wp2_with fail
  refine (rsame_any Af s.length cf s Ar s.length cr s w6.heap.size _ (HV6.out.get (by simp)) (HV6.out.get (by simp)) (by omega) (by omega)).mono ?_
  rw [same_self]
  rintro e w7 ⟨rfl, hd⟩
  have hb := drawn_below hd.out w6.heap.size
  clear hd
  have HV7 : Hid (Vs w7 [(Af, s), (Ar, s), (As, s), (Ax, v), (Bv, v)]) := HV6.out.keep hb
  have HB7 : Hid (Below w.heap.size w w7) := HB6.out.trans (hb.mono HB6.out.size)
  clear hb HV6
  go_wp2_with fail
  refine (gone_any Ax v.length cx v a w7.heap.size _ (Nat.le_refl _) (HV7.out.get (by simp)) (by omega) Gv.out.1).mono ?_
  rw [HG.out]
  rintro e w8 ⟨rfl, hb⟩
  have HV8 : Hid (Vs w8 [(Af, s), (Ar, s), (As, s), (Ax, v), (Bv, v)]) := HV7.out.keep hb
  have HB8 : Hid (Below w.heap.size w w8) := HB7.out.trans (hb.mono HB7.out.size)
  clear hb HV7
  go_wp2_with fail
  refine (rgone_any Bv v.length dv v a w8.heap.size _ (HV8.out.get (by simp)) (by omega)).mono ?_
  rw [HG.out]
  rintro e w' ⟨rfl, rfl⟩
  go_wp2_with fail
  refine (last_any Ax v.length cx v a w8.heap.size _ (Nat.le_refl _) (HV8.out.get (by simp)) (by omega) Gv.out.1 HOV.out.2).mono ?_
  rw [HL.out]
  rintro e w9 ⟨rfl, hb⟩
  have HV9 : Hid (Vs w9 [(Af, s), (Ar, s), (As, s), (Ax, v), (Bv, v)]) := HV8.out.keep hb
  have HB9 : Hid (Below w.heap.size w w9) := HB8.out.trans (hb.mono HB8.out.size)
  clear hb HV8
  go_wp2_with fail
  refine (rlast_any Bv v.length dv v a w9.heap.size _ (HV9.out.get (by simp)) (by omega) HOV.out).mono ?_
  rw [HL.out]
  rintro e w' ⟨rfl, rfl⟩
  go_wp2_with fail
  refine (gone_any As s.length cs s a w9.heap.size _ (Nat.le_refl _) (HV9.out.get (by simp)) (by omega) Gs.out.1).mono ?_
  rw [HGY.out]
  rintro e w10 ⟨rfl, hb⟩
  have HV10 : Hid (Vs w10 [(Af, s), (Ar, s), (As, s), (Ax, v), (Bv, v)]) := HV9.out.keep hb
  have HB10 : Hid (Below w.heap.size w w10) := HB9.out.trans (hb.mono HB9.out.size)
  clear hb HV9
  go_wp2_with fail
  refine (rgone_any Bv v.length dv v a w10.heap.size _ (HV10.out.get (by simp)) (by omega)).mono ?_
  rw [HG.out]
  rintro e w' ⟨rfl, rfl⟩
  cases g with
  | true =>
    go_wp2_with fail
    refine (last_any As s.length cs s a w10.heap.size _ (Nat.le_refl _) (HV10.out.get (by simp)) (by omega) Gs.out.1 HOS.out.2).mono ?_
    rw [HM.out]
    rintro e w11 ⟨rfl, hb⟩
    have HV11 : Hid (Vs w11 [(Af, s), (Ar, s), (As, s), (Ax, v), (Bv, v)]) := HV10.out.keep hb
    have HB11 : Hid (Below w.heap.size w w11) := HB10.out.trans (hb.mono HB10.out.size)
    clear hb HV10
    go_wp2_with fail
    refine (rlast_any Ar s.length cr s a w11.heap.size _ (HV11.out.get (by simp)) (by omega) HOS.out).mono ?_
    rw [HM.out]
    rintro e w' ⟨rfl, rfl⟩
    go_wp2_with fail
    refine (from_any Ax v.length cx v w11.heap.size _ (Nat.le_refl _) (HV11.out.get (by simp)) (by omega)).mono ?_
    rintro e w12 ⟨Au, cu, rfl, hcu, ho, hb⟩
    have HV12 : Hid (Vs w12 [(Au, v), (Af, s), (Ar, s), (As, s), (Ax, v), (Bv, v)]) := HV11.out.own ho hb
    have HB12 : Hid (Below w.heap.size w w12) := HB11.out.trans (hb.mono HB11.out.size)
    clear ho hb HV11
    go_wp2_with fail
    refine (rsame_any Au v.length cu v Bv v.length dv v w12.heap.size _ (HV12.out.get (by simp)) (HV12.out.get (by simp)) (by omega) (by omega)).mono ?_
    rw [same_self]
    rintro e w13 ⟨rfl, hd⟩
    have hb := drawn_below hd.out w12.heap.size
    clear hd
    have HV13 : Hid (Vs w13 [(Au, v), (Af, s), (Ar, s), (As, s), (Ax, v), (Bv, v)]) := HV12.out.keep hb
    have HB13 : Hid (Below w.heap.size w w13) := HB12.out.trans (hb.mono HB12.out.size)
    clear hb HV12
    go_wp2_with fail
    refine (rightv_any As s.length cs s w13.heap.size _ (Nat.le_refl _) (HV13.out.get (by simp)) (by omega)).mono ?_
    rw [RS.out]
    rintro e w14 ⟨rfl, hb⟩
    have HV14 : Hid (Vs w14 [(Au, v), (Af, s), (Ar, s), (As, s), (Ax, v), (Bv, v)]) := HV13.out.keep hb
    have HB14 : Hid (Below w.heap.size w w14) := HB13.out.trans (hb.mono HB13.out.size)
    clear hb HV13
    go_wp2
    go_ret
    exact ⟨rfl, HB14.out⟩
  | false =>
    go_wp2_with fail
    refine (rright_any a _).mono ?_
    rw [HR.out]
    rintro e w' ⟨rfl, rfl⟩
    go_wp2_with fail
    refine (last_any As s.length cs s a w10.heap.size _ (Nat.le_refl _) (HV10.out.get (by simp)) (by omega) Gs.out.1 HOS.out.2).mono ?_
    rw [HM.out]
    rintro e w11 ⟨rfl, hb⟩
    have HV11 : Hid (Vs w11 [(Af, s), (Ar, s), (As, s), (Ax, v), (Bv, v)]) := HV10.out.keep hb
    have HB11 : Hid (Below w.heap.size w w11) := HB10.out.trans (hb.mono HB10.out.size)
    clear hb HV10
    go_wp2_with fail
    refine (rlast_any Ar s.length cr s a w11.heap.size _ (HV11.out.get (by simp)) (by omega) HOS.out).mono ?_
    rw [HM.out]
    rintro e w' ⟨rfl, rfl⟩
    go_wp2_with fail
    refine (from_any Ax v.length cx v w11.heap.size _ (Nat.le_refl _) (HV11.out.get (by simp)) (by omega)).mono ?_
    rintro e w12 ⟨Au, cu, rfl, hcu, ho, hb⟩
    have HV12 : Hid (Vs w12 [(Au, v), (Af, s), (Ar, s), (As, s), (Ax, v), (Bv, v)]) := HV11.out.own ho hb
    have HB12 : Hid (Below w.heap.size w w12) := HB11.out.trans (hb.mono HB11.out.size)
    clear ho hb HV11
    go_wp2_with fail
    refine (rsame_any Au v.length cu v Bv v.length dv v w12.heap.size _ (HV12.out.get (by simp)) (HV12.out.get (by simp)) (by omega) (by omega)).mono ?_
    rw [same_self]
    rintro e w13 ⟨rfl, hd⟩
    have hb := drawn_below hd.out w12.heap.size
    clear hd
    have HV13 : Hid (Vs w13 [(Au, v), (Af, s), (Ar, s), (As, s), (Ax, v), (Bv, v)]) := HV12.out.keep hb
    have HB13 : Hid (Below w.heap.size w w13) := HB12.out.trans (hb.mono HB12.out.size)
    clear hb HV12
    go_wp2_with fail
    refine (rightv_any As s.length cs s w13.heap.size _ (Nat.le_refl _) (HV13.out.get (by simp)) (by omega)).mono ?_
    rw [RS.out]
    rintro e w14 ⟨rfl, hb⟩
    have HV14 : Hid (Vs w14 [(Au, v), (Af, s), (Ar, s), (As, s), (Ax, v), (Bv, v)]) := HV13.out.keep hb
    have HB14 : Hid (Below w.heap.size w w14) := HB13.out.trans (hb.mono HB13.out.size)
    clear hb HV13
    go_wp2
    go_ret
    exact ⟨rfl, HB14.out⟩
end Go.Proofs.Ytcbadocmkgodhaa
