/- id.Add and id.Has; the law IdLists walked. -/
import Derived.Test.YtkdeiljbjpefhaaDoorIb
import Derived.Test.YtkdeiljbjpefhaaDoorUf
namespace Go.Proofs.YtkdeiljbjpefhaaDoor
open Go.RowKit

set_option maxRecDepth 100000 in
set_option maxHeartbeats 1000000 in
theorem add_any (A : Option Addr) (n c : Nat) (zs : List ByteArray) (a : ByteArray) (B : Nat) (w : World) (hB : B ≤ w.heap.size) (hz : RowAt cellsT 1 w B A n zs) (hn : n ≤ 1000000) :
    Calls Tryd.prog 7 #[.slice A n c, .string a] w (OwnRow cellsT 1 28 (unionF (zs ++ [a])) w) := by
  have hb : Below w.heap.size w (w.alloc (.cells #[.string a] 28)) := (Below.refl _ _).alloc (Nat.le_refl _) _
  have HU := Lib.hid (union_any A n c zs (some ⟨w.heap.size, 0, none⟩) 1 1 [a] (w.heap.size + 1) (w.alloc (.cells #[.string a] 28)) (by simp) ((hz.keep (hb.mono hB)).more (by omega)) (one_row rowT (heap_alloc_new w _)) (by omega))
  have HB := Lib.hid hb
  clear hb hz
  go_enter Tryd.func7, Tryd.ntmps7
  go_wp2_with fail
  refine HU.out.mono ?_
  rintro e w1 ⟨A1, c1, rfl, ho, hb⟩
  have HO := Lib.hid (rown_base ho HB.out.size)
  have HB1 := Lib.hid (HB.out.trans (hb.mono HB.out.size))
  clear ho hb HU
  go_wp2
  go_ret
  exact ⟨A1, c1, rfl, HO.out, HB1.out⟩
theorem has_take (zs : List ByteArray) (a : ByteArray) : ((zs.take zs.length).any fun y => decide (a = y)) = hasT zs a := by
  rw [List.take_length, Bool.eq_iff_iff, hasT_iff]
  simp
set_option maxRecDepth 100000 in
set_option maxHeartbeats 1000000 in
theorem has_any (A : Option Addr) (n c : Nat) (zs : List ByteArray) (a : ByteArray) (B : Nat) (w : World) (hz : RowAt cellsT 1 w B A n zs) (hn : n ≤ 1000000) :
    Calls Tryd.prog 11 #[.slice A n c, .string a] w fun e w' => e = .returned (.bool (hasT zs a)) ∧ w = w' := by
  have hl : zs.length = n := hz.1
  rcases Nat.eq_zero_or_pos n with h0 | h0
  · have hnil : zs = [] := List.eq_nil_of_length_eq_zero (by omega)
    subst hnil h0
    clear hz
    go_enter Tryd.func11, Tryd.ntmps11
    go_wp2_with (go_at_call 23; refine (Tryd.slices_Contains_empty (α := ByteArray) A c _ _).mono ?_; rintro e w' ⟨rfl, rfl⟩)
    go_ret
    exact ⟨rfl, rfl⟩
  · obtain ⟨b, off, rfl, hlt, hc⟩ := hz.2 h0
    have HC := Lib.hid (Tryd.slices_Contains Value.string (fun x y => decide (x = y)) eqlT b off n c zs a w (by omega) (by omega) (fun j hj => by
      have := hc j hj 0 (.string zs[j]) rfl
      rw [Nat.mul_one, Nat.add_zero] at this
      rw [this]
      simp [hj]))
    rw [← hl, has_take, hl] at HC
    generalize hasT zs a = r at *
    clear hz hc
    go_enter Tryd.func11, Tryd.ntmps11
    go_wp2_with (go_at_call 23; refine HC.out.mono ?_; rintro e w' ⟨rfl, rfl⟩)
    go_ret
    exact ⟨rfl, rfl⟩
theorem has_union (zs : List ByteArray) (a : ByteArray) : hasT (unionF zs) a = hasT zs a := by
  rw [Bool.eq_iff_iff, hasT_iff, hasT_iff, (unionF_is zs).2]

set_option maxRecDepth 100000 in
set_option maxHeartbeats 16000000 in
theorem idLists_walk (A0 : Option Addr) (n0 c0 : Nat) (z0 : List ByteArray) (A1 : Option Addr) (n1 c1 : Nat) (z1 : List ByteArray) (a : ByteArray) (w : World) (hz0 : RowAt cellsT 1 w w.heap.size A0 n0 z0) (hc0 : n0 ≤ c0) (hs0 : ∀ s ∈ z0, s.size ≤ 9223372036854775807) (hn0 : c0 ≤ 9223372036854775807) (hz1 : RowAt cellsT 1 w w.heap.size A1 n1 z1) (hc1 : n1 ≤ c1) (hs1 : ∀ s ∈ z1, s.size ≤ 9223372036854775807) (hn1 : c1 ≤ 9223372036854775807) (ha : a.size ≤ 9223372036854775807) :
    Calls Tryd.prog 3 #[.slice A0 n0 c0, .slice A1 n1 c1, .string a] w fun e w' => e = .returned (.bool true) ∧ Below w.heap.size w w' := by
  obtain ⟨m0, hm0⟩ : ∃ m : Nat, min (n0 : Int) 60 = m := ⟨min n0 60, by omega⟩
  have hmn0 : m0 ≤ n0 := by omega
  have hm60 : m0 ≤ 60 := by omega
  have HZ0 := Lib.hid (hz0.take hmn0)
  have HS0 : Hid (∀ s ∈ z0.take m0, s.size ≤ 9223372036854775807) := fun s hs => hs0 s (List.mem_of_mem_take hs)
  have hl0 : (z0.take m0).length = m0 := by rw [List.length_take, hz0.1]; omega
  generalize hx0 : z0.take m0 = x0 at *
  have HT00 : Hid (Ts w [(A0, x0)]) := fun t ht => by simp at ht; subst ht; show RowAt _ _ _ _ _ x0.length _; rw [hl0]; exact HZ0.out
  obtain ⟨m1, hm1⟩ : ∃ m : Nat, min (n1 : Int) 60 = m := ⟨min n1 60, by omega⟩
  have hmn1 : m1 ≤ n1 := by omega
  have hm61 : m1 ≤ 60 := by omega
  have HZ1 := Lib.hid (hz1.take hmn1)
  have HS1 : Hid (∀ s ∈ z1.take m1, s.size ≤ 9223372036854775807) := fun s hs => hs1 s (List.mem_of_mem_take hs)
  have hl1 : (z1.take m1).length = m1 := by rw [List.length_take, hz1.1]; omega
  generalize hx1 : z1.take m1 = x1 at *
  have HT10 : Hid (Ts w [(A1, x1)]) := fun t ht => by simp at ht; subst ht; show RowAt _ _ _ _ _ x1.length _; rw [hl1]; exact HZ1.out
  have HT0 : Hid (Ts w [(A0, x0), (A1, x1)]) := fun t ht => by
    rcases List.mem_cons.mp ht with e | e
    · exact HT00.out t (by rw [e]; simp)
    · exact HT10.out t e
  have HSA : Hid (∀ s ∈ x0 ++ x1, s.size ≤ 9223372036854775807) := fun s hs => (List.mem_append.mp hs).elim (HS0.out s) (HS1.out s)
  have HSB : Hid (∀ s ∈ x0 ++ [a], s.size ≤ 9223372036854775807) := fun s hs => (List.mem_append.mp hs).elim (HS0.out s) (fun e => by simp at e; subst e; exact ha)
  have lx0 : x0.length ≤ 60 := by omega
  have lx1 : x1.length ≤ 60 := by omega
  have hlu := unionF_len (x0 ++ x1)
  have hlv := unionF_len (x0 ++ [a])
  have hlw := unionF_len x0
  rw [List.length_append] at hlu hlv
  have HHU := Lib.hid (has_union x0 a)
  obtain ⟨u, hu⟩ : ∃ u, unionF (x0 ++ x1) = u := ⟨_, rfl⟩
  obtain ⟨v, hv⟩ : ∃ v, unionF (x0 ++ [a]) = v := ⟨_, rfl⟩
  obtain ⟨q, hq⟩ : ∃ q, unionF x0 = q := ⟨_, rfl⟩
  have HQ : Hid (unionF (x0 ++ []) = q) := by show _ = _; rw [List.append_nil]; exact hq
  obtain ⟨b, hb⟩ : ∃ b, hasT x0 a = b := ⟨_, rfl⟩
  rw [hb, hq] at HHU
  rw [hu] at hlu
  rw [hv] at hlv
  rw [hq] at hlw
  have HU := Lib.hid hu
  have HV := Lib.hid hv
  have HHB := Lib.hid hb
  have lu : u.length ≤ 120 := by omega
  have lv : v.length ≤ 61 := by simp at hlv; omega
  have lq : q.length ≤ 60 := by omega
  clear hz0 hz1 hs0 hs1 HZ0 HZ1 HS0 HS1 HT00 HT10 hu hv hq hb hlu hlv hlw hx0 hx1
  subst hl0 hl1
  have HB0 : Hid (Below w.heap.size w w) := Below.refl _ _
  go_enter Tryd.func3, Tryd.ntmps3
  go_wp2_with fail
  go_region
  have HT1 : Hid (Ts w.drew [(A0, x0), (A1, x1)]) := HT0.out
  have HB1 : Hid (Below w.heap.size w w.drew) := (Below.refl _ _).drew
  generalize hw0 : w.drew = w0 at *
  clear HT0 HB0
  go_wp2_with fail
  refine (idTo_any A0 x0.length c0 x0 w0.heap.size _ (Nat.le_refl _) (HT1.out.get (by simp)) (by omega)).mono ?_
  rintro e w2 ⟨Ap, cp, rfl, ho, hb⟩
  have HT2 : Hid (Ts w2 [(Ap, x0), (A0, x0), (A1, x1)]) := HT1.out.ownT ho hb
  have HB2 : Hid (Below w.heap.size w w2) := HB1.out.trans (hb.mono HB1.out.size)
  clear ho hb HT1
  go_wp2_with fail
  refine (idTo_any A1 x1.length c1 x1 w2.heap.size _ (Nat.le_refl _) (HT2.out.get (by simp)) (by omega)).mono ?_
  rintro e w3 ⟨Ar, cr, rfl, ho, hb⟩
  have HT3 : Hid (Ts w3 [(Ar, x1), (Ap, x0), (A0, x0), (A1, x1)]) := HT2.out.ownT ho hb
  have HB3 : Hid (Below w.heap.size w w3) := HB2.out.trans (hb.mono HB2.out.size)
  clear ho hb HT2
  go_wp2_with fail
  refine (union_any Ap x0.length cp x0 Ar x1.length cr x1 w3.heap.size _ (Nat.le_refl _) (HT3.out.get (by simp)) (HT3.out.get (by simp)) (by omega)).mono ?_
  rw [HU.out]
  rintro e w4 ⟨Au1, cu1, rfl, ho, hb⟩
  have HT4 : Hid (Ts w4 [(Au1, u), (Ar, x1), (Ap, x0), (A0, x0), (A1, x1)]) := HT3.out.ownT ho hb
  have HB4 : Hid (Below w.heap.size w w4) := HB3.out.trans (hb.mono HB3.out.size)
  clear ho hb HT3
  go_wp2_with fail
  refine (idFrom_any Au1 u.length cu1 u w4.heap.size _ (Nat.le_refl _) (HT4.out.get (by simp)) (by omega)).mono ?_
  rintro e w5 ⟨Au2, cu2, rfl, ho, hb⟩
  have HT5 : Hid (Ts w5 [(Au2, u), (Au1, u), (Ar, x1), (Ap, x0), (A0, x0), (A1, x1)]) := HT4.out.ownT ho hb
  have HB5 : Hid (Below w.heap.size w w5) := HB4.out.trans (hb.mono HB4.out.size)
  clear ho hb HT4
  go_wp2_with fail
  refine (add_any Ap x0.length cp x0 a w5.heap.size _ (Nat.le_refl _) (HT5.out.get (by simp)) (by omega)).mono ?_
  rw [HV.out]
  rintro e w6 ⟨Av1, cv1, rfl, ho, hb⟩
  have HT6 : Hid (Ts w6 [(Av1, v), (Au2, u), (Au1, u), (Ar, x1), (Ap, x0), (A0, x0), (A1, x1)]) := HT5.out.ownT ho hb
  have HB6 : Hid (Below w.heap.size w w6) := HB5.out.trans (hb.mono HB5.out.size)
  clear ho hb HT5
  go_wp2_with fail
  refine (idFrom_any Av1 v.length cv1 v w6.heap.size _ (Nat.le_refl _) (HT6.out.get (by simp)) (by omega)).mono ?_
  rintro e w7 ⟨Av2, cv2, rfl, ho, hb⟩
  have HT7 : Hid (Ts w7 [(Av2, v), (Av1, v), (Au2, u), (Au1, u), (Ar, x1), (Ap, x0), (A0, x0), (A1, x1)]) := HT6.out.ownT ho hb
  have HB7 : Hid (Below w.heap.size w w7) := HB6.out.trans (hb.mono HB6.out.size)
  clear ho hb HT6
  go_wp2_with fail
  refine (told_any _).mono ?_
  rintro e w' ⟨rfl, rfl⟩
  go_wp2_with fail
  refine (runion_any A0 x0.length c0 x0 A1 x1.length c1 x1 w7.heap.size _ (Nat.le_refl _) (HT7.out.get (by simp)) (HT7.out.get (by simp)) (by omega) HSA.out).mono ?_
  rw [HU.out]
  rintro e w8 ⟨Au3, cu3, rfl, ho, hb⟩
  have HT8 : Hid (Ts w8 [(Au3, u), (Av2, v), (Av1, v), (Au2, u), (Au1, u), (Ar, x1), (Ap, x0), (A0, x0), (A1, x1)]) := HT7.out.ownT ho hb
  have HB8 : Hid (Below w.heap.size w w8) := HB7.out.trans (hb.mono HB7.out.size)
  clear ho hb HT7
  go_wp2_with fail
  refine (rsameT_any Au2 u.length cu2 u Au3 u.length cu3 u w8.heap.size _ (HT8.out.get (by simp)) (HT8.out.get (by simp)) (by omega) (by omega)).mono ?_
  rw [sameT_self]
  rintro e w9 ⟨rfl, hd⟩
  have hb := drawn_below hd.out w8.heap.size
  clear hd
  have HT9 : Hid (Ts w9 [(Au3, u), (Av2, v), (Av1, v), (Au2, u), (Au1, u), (Ar, x1), (Ap, x0), (A0, x0), (A1, x1)]) := HT8.out.keep hb
  clear HT8
  have HB9 : Hid (Below w.heap.size w w9) := HB8.out.trans (hb.mono HB8.out.size)
  clear hb
  have HBa : Hid (Below w9.heap.size w9 (w9.alloc (.cells #[.string a] 9))) := (Below.refl _ _).alloc (Nat.le_refl _) _
  have HRa := Lib.hid (runion_any A0 x0.length c0 x0 (some ⟨w9.heap.size, 0, none⟩) 1 1 [a] (w9.heap.size + 1) (w9.alloc (.cells #[.string a] 9)) (by simp) (((show RowAt cellsT 1 w9 w9.heap.size A0 x0.length x0 from (HT9.out.get (by simp))).keep HBa.out).more (by omega)) (one_row rowR (heap_alloc_new w9 _)) (by omega) HSB.out)
  go_wp2_with fail
  refine HRa.out.mono ?_
  rw [HV.out]
  rintro e w10 ⟨Av3, cv3, rfl, ho, hb0⟩
  have hb := HBa.out.trans (hb0.mono HBa.out.size)
  have HT10 : Hid (Ts w10 [(Av3, v), (Au3, u), (Av2, v), (Av1, v), (Au2, u), (Au1, u), (Ar, x1), (Ap, x0), (A0, x0), (A1, x1)]) := HT9.out.ownT ho hb
  have HB10 : Hid (Below w.heap.size w w10) := HB9.out.trans (hb.mono HB9.out.size)
  clear ho hb hb0 HBa HRa HT9
  go_wp2_with fail
  refine (rsameT_any Av2 v.length cv2 v Av3 v.length cv3 v w10.heap.size _ (HT10.out.get (by simp)) (HT10.out.get (by simp)) (by omega) (by omega)).mono ?_
  rw [sameT_self]
  rintro e w11 ⟨rfl, hd⟩
  have hb := drawn_below hd.out w10.heap.size
  clear hd
  have HT11 : Hid (Ts w11 [(Av3, v), (Au3, u), (Av2, v), (Av1, v), (Au2, u), (Au1, u), (Ar, x1), (Ap, x0), (A0, x0), (A1, x1)]) := HT10.out.keep hb
  clear HT10
  have HB11 : Hid (Below w.heap.size w w11) := HB10.out.trans (hb.mono HB10.out.size)
  clear hb
  go_wp2_with fail
  refine (union_any Ap x0.length cp x0 none 0 0 [] w11.heap.size _ (Nat.le_refl _) (HT11.out.get (by simp)) RowAt.nil (by omega)).mono ?_
  rw [HQ.out]
  rintro e w12 ⟨Aq1, cq1, rfl, ho, hb⟩
  have HT12 : Hid (Ts w12 [(Aq1, q), (Av3, v), (Au3, u), (Av2, v), (Av1, v), (Au2, u), (Au1, u), (Ar, x1), (Ap, x0), (A0, x0), (A1, x1)]) := HT11.out.ownT ho hb
  have HB12 : Hid (Below w.heap.size w w12) := HB11.out.trans (hb.mono HB11.out.size)
  clear ho hb HT11
  go_wp2_with fail
  refine (has_any Aq1 q.length cq1 q a w12.heap.size _ (HT12.out.get (by simp)) (by omega)).mono ?_
  rw [HHU.out]
  rintro e w' ⟨rfl, rfl⟩
  go_wp2_with fail
  refine (rhas_any A0 x0.length c0 x0 a w12.heap.size _ (HT12.out.get (by simp)) (by omega)).mono ?_
  rw [HHB.out]
  rintro e w' ⟨rfl, rfl⟩
  go_wp2_with fail
  refine (idFrom_any Ap x0.length cp x0 w12.heap.size _ (Nat.le_refl _) (HT12.out.get (by simp)) (by omega)).mono ?_
  rintro e w13 ⟨Ap2, cp2, rfl, ho, hb⟩
  have HT13 : Hid (Ts w13 [(Ap2, x0), (Aq1, q), (Av3, v), (Au3, u), (Av2, v), (Av1, v), (Au2, u), (Au1, u), (Ar, x1), (Ap, x0), (A0, x0), (A1, x1)]) := HT12.out.ownT ho hb
  have HB13 : Hid (Below w.heap.size w w13) := HB12.out.trans (hb.mono HB12.out.size)
  clear ho hb HT12
  go_wp2_with fail
  refine (rsameT_any Ap2 x0.length cp2 x0 A0 x0.length c0 x0 w13.heap.size _ (HT13.out.get (by simp)) (HT13.out.get (by simp)) (by omega) (by omega)).mono ?_
  rw [sameT_self]
  rintro e w14 ⟨rfl, hd⟩
  have hb := drawn_below hd.out w13.heap.size
  clear hd
  have HT14 : Hid (Ts w14 [(Ap2, x0), (Aq1, q), (Av3, v), (Au3, u), (Av2, v), (Av1, v), (Au2, u), (Au1, u), (Ar, x1), (Ap, x0), (A0, x0), (A1, x1)]) := HT13.out.keep hb
  clear HT13
  have HB14 : Hid (Below w.heap.size w w14) := HB13.out.trans (hb.mono HB13.out.size)
  clear hb
  go_wp2_with fail
  refine (idFrom_any Ar x1.length cr x1 w14.heap.size _ (Nat.le_refl _) (HT14.out.get (by simp)) (by omega)).mono ?_
  rintro e w15 ⟨Ar2, cr2, rfl, ho, hb⟩
  have HT15 : Hid (Ts w15 [(Ar2, x1), (Ap2, x0), (Aq1, q), (Av3, v), (Au3, u), (Av2, v), (Av1, v), (Au2, u), (Au1, u), (Ar, x1), (Ap, x0), (A0, x0), (A1, x1)]) := HT14.out.ownT ho hb
  have HB15 : Hid (Below w.heap.size w w15) := HB14.out.trans (hb.mono HB14.out.size)
  clear ho hb HT14
  go_wp2_with fail
  refine (rsameT_any Ar2 x1.length cr2 x1 A1 x1.length c1 x1 w15.heap.size _ (HT15.out.get (by simp)) (HT15.out.get (by simp)) (by omega) (by omega)).mono ?_
  rw [sameT_self]
  rintro e w16 ⟨rfl, hd⟩
  have hb := drawn_below hd.out w15.heap.size
  clear hd
  have HT16 : Hid (Ts w16 [(Ar2, x1), (Ap2, x0), (Aq1, q), (Av3, v), (Au3, u), (Av2, v), (Av1, v), (Au2, u), (Au1, u), (Ar, x1), (Ap, x0), (A0, x0), (A1, x1)]) := HT15.out.keep hb
  clear HT15
  have HB16 : Hid (Below w.heap.size w w16) := HB15.out.trans (hb.mono HB15.out.size)
  clear hb
  go_wp2
  go_ret
  exact ⟨rfl, HB16.out⟩
end Go.Proofs.YtkdeiljbjpefhaaDoor
