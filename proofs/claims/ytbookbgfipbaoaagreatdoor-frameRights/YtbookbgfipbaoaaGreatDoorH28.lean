/- The document's Put of a Frame. -/
import Derived.Test.YtbookbgfipbaoaaGreatDoorH27
namespace Go.Proofs.YtbookbgfipbaoaaGreatDoor
open Go.RowKit

set_option maxRecDepth 100000 in
set_option maxHeartbeats 16000000 in
theorem rput12_any (f : Frm) (h : Lie) (B : Nat) (w : World) (hB : B ≤ w.heap.size) (ha : RFrmAt w B f h) (na : FewF f) (ns : RShort f) :
    Calls Tryz.prog 15 #[frmV f h] w (RP w.heap.size (frmB f) w) := by
  have HR : Hid (∀ W, Below w.heap.size w W → Calls Tryz.prog 12 #[frmV f h] W fun e w' => e = .returned (.bool (rightFrm f)) ∧ Below W.heap.size W w') := fun W hb => rright12_any f h B W (Nat.le_trans hB hb.size) (ha.keep (hb.mono hB)) na ns
  have HKM : Hid (∀ W, Below w.heap.size w W → Kn.MatAt W B h.kA f.know.length f.know) := fun W hb => ha.know.keep (hb.mono hB)
  have HMB : Hid (∀ W, Below w.heap.size w W → RowAt cellsT 1 W B h.mA f.members.length f.members) := fun W hb => ha.members.keep (hb.mono hB)
  have HCE : Hid (∀ W, Below w.heap.size w W → VecAt W W.heap.size h.cA f.certs.length f.certs) := fun W hb => (ha.certs.keep (hb.mono hB)).more (Nat.le_trans hB hb.size)
  have HRW : Hid (∀ W, Below w.heap.size w W → Mx.MatAt W B h.rA f.rows.length f.rows) := fun W hb => ha.rows.keep (hb.mono hB)
  have HIT : Hid (∀ W, Below w.heap.size w W → RowAt By.cellsI 9 W B h.iA f.items.length f.items) := fun W hb => ha.items.keep (hb.mono hB)
  have HFL : Hid (∀ W, Below w.heap.size w W → VecAt W W.heap.size h.fA f.floor.length f.floor) := fun W hb => (ha.floor.keep (hb.mono hB)).more (Nat.le_trans hB hb.size)
  have HTX : Hid (∀ W, Below w.heap.size w W → Calls Tryz.prog 54 #[.slice h.zA f.zone.length h.zc] W fun e w' => e = .returned (.string (Zo.textF f.zone)) ∧ Below W.heap.size W w') := fun W hb => Zo.rtext_any _ _ _ _ B W (Nat.le_trans hB hb.size) (ha.zone.keep (hb.mono hB)) (by have := na.zone.1; omega)
  have hzt := zoneText_size f.zone
  have HF : Hid (frmB f = if rightFrm f then (if f.kind = 3 then hdB f ++ allB atB f.floor
    else if f.kind = 1 then (newsB f ++ txtB (Zo.textF f.zone)) ++ allB By.bytesF f.items
    else if f.kind = 2 then (newsB f ++ allB By.bytesF f.items) ++ numB (truthF f.whole)
    else newsB f ++ allB By.bytesF f.items) else []) := rfl
  have hkind : rightFrm f = true → f.kind = 1 ∨ f.kind = 2 ∨ f.kind = 3 := fun h => by
    unfold rightFrm at h
    rw [Bool.and_eq_true] at h
    by_cases k1 : f.kind = 1
    · exact .inl k1
    · by_cases k2 : f.kind = 2
      · exact .inr (.inl k2)
      · by_cases k3 : f.kind = 3
        · exact .inr (.inr k3)
        · rw [if_neg k1, if_neg k2, if_neg k3] at h
          exact absurd h.2 (by decide)
  have hok := fun h => ok_of (f := f) h
  unfold newsB hdB at HF
  generalize frmB f = PF at *
  generalize Zo.textF f.zone = zt at *
  clear ha na ns
  unfold frmV at *
  rcases hr : rightFrm f with _ | _
  · rw [hr] at HF HR
    clear hkind hok hr hzt
    obtain ⟨p1, p2, p3, p4, p5, p6, p7, p8, p9, p10, p11, p12⟩ := f
    simp only at HF HR HKM HMB HCE HRW HIT HFL HTX ⊢
    go_enter Tryz.func15, Tryz.ntmps15
    go_upto_region 1 with fail
    have HKB : Hid (Blk (w.alloc (.cells #[.int .i64 p1, .string p2, .string p3, .slice h.kA p4.length h.kc, .int .i64 p5, .slice h.mA p6.length h.mc, .slice h.cA p7.length h.cc, .slice h.rA p8.length h.rc, .slice h.zA p9.length h.zc, .slice h.iA p10.length h.ic, .bool p11, .slice h.fA p12.length h.fc] 29)) w.heap.size [.int .i64 p1, .string p2, .string p3, .slice h.kA p4.length h.kc, .int .i64 p5, .slice h.mA p6.length h.mc, .slice h.cA p7.length h.cc, .slice h.rA p8.length h.rc, .slice h.zA p9.length h.zc, .slice h.iA p10.length h.ic, .bool p11, .slice h.fA p12.length h.fc]) := Blk.new w [.int .i64 p1, .string p2, .string p3, .slice h.kA p4.length h.kc, .int .i64 p5, .slice h.mA p6.length h.mc, .slice h.cA p7.length h.cc, .slice h.rA p8.length h.rc, .slice h.zA p9.length h.zc, .slice h.iA p10.length h.ic, .bool p11, .slice h.fA p12.length h.fc] 29
    have HB : Hid (Below w.heap.size w (w.alloc (.cells #[.int .i64 p1, .string p2, .string p3, .slice h.kA p4.length h.kc, .int .i64 p5, .slice h.mA p6.length h.mc, .slice h.cA p7.length h.cc, .slice h.rA p8.length h.rc, .slice h.zA p9.length h.zc, .slice h.iA p10.length h.ic, .bool p11, .slice h.fA p12.length h.fc] 29))) := (Below.refl _ _).alloc (Nat.le_refl _) _
    generalize (w.alloc (.cells #[.int .i64 p1, .string p2, .string p3, .slice h.kA p4.length h.kc, .int .i64 p5, .slice h.mA p6.length h.mc, .slice h.cA p7.length h.cc, .slice h.rA p8.length h.rc, .slice h.zA p9.length h.zc, .slice h.iA p10.length h.ic, .bool p11, .slice h.fA p12.length h.fc] 29)) = W0 at *
    obtain ⟨k0, k1, k2, k3, k4, k5, k6, k7, k8, k9, k10, k11⟩ := HKB.out.cs
    go_wp2_with fail
    clear k0 k1 k2 k3 k4 k5 k6 k7 k8 k9 k10 k11
    refine (HR.out _ HB.out).mono ?_
    rintro e W1 ⟨rfl, hb⟩
    replace HKB := Lib.hid (HKB.out.below hb)
    replace HB := Lib.hid (HB.out.trans (hb.mono HB.out.size))
    clear hb HR
    go_wp2
    go_ret
    have e : PF = [] := by rw [HF.out]; rfl
    rw [e]
    exact ⟨none, 0, rfl, World.ownsRow_nil _ _ _ _, HB.out⟩
  · have hk := hkind hr
    have ok := hok hr
    rw [hr, if_pos rfl] at HF
    rw [hr] at HR
    clear hkind hok hr
    obtain ⟨o1, o2, o3, ⟨o4, o5⟩, ⟨o6, o7⟩, ⟨o8, o9⟩, ⟨o10, o11⟩, ⟨o12, o13⟩, ⟨o14, o15⟩⟩ := ok
    have lK := Nat.le_trans (all_len (f := knownB) 40000 64 o4 (by omega) fun x hx => known_len (o5 x hx)) (show _ ≤ 3000000 by omega)
    have lM := Nat.le_trans (all_len (f := txtB) 15 64 o6 (by omega) fun x hx => txt_len6 (o7 x hx)) (show _ ≤ 2000 by omega)
    have lC := Nat.le_trans (all_len (f := atB) 24 64 o8 (by omega) fun x hx => at_len (o9 x hx)) (show _ ≤ 2000 by omega)
    have lR := Nat.le_trans (all_len (f := rowB) 2000 64 o10 (by omega) fun x hx => row_len (o11 x hx)) (show _ ≤ 200000 by omega)
    have lI := Nat.le_trans (all_len (f := By.bytesF) 1000 32 o12 (by omega) fun x hx => By.bytesF_len (o13 x hx)) (show _ ≤ 40000 by omega)
    have lF := Nat.le_trans (all_len (f := atB) 24 64 o14 (by omega) fun x hx => at_len (o15 x hx)) (show _ ≤ 2000 by omega)
    have O5 := Lib.hid o5
    have O7 := Lib.hid o7
    have O9 := Lib.hid o9
    have O11 := Lib.hid o11
    have O13 := Lib.hid o13
    have O15 := Lib.hid o15
    clear o5 o7 o9 o11 o13 o15
    obtain ⟨p1, p2, p3, p4, p5, p6, p7, p8, p9, p10, p11, p12⟩ := f
    simp only at HF HR HKM HMB HCE HRW HIT HFL HTX ⊢
    go_enter Tryz.func15, Tryz.ntmps15
    go_upto_region 1 with fail
    have HKB : Hid (Blk (w.alloc (.cells #[.int .i64 p1, .string p2, .string p3, .slice h.kA p4.length h.kc, .int .i64 p5, .slice h.mA p6.length h.mc, .slice h.cA p7.length h.cc, .slice h.rA p8.length h.rc, .slice h.zA p9.length h.zc, .slice h.iA p10.length h.ic, .bool p11, .slice h.fA p12.length h.fc] 29)) w.heap.size [.int .i64 p1, .string p2, .string p3, .slice h.kA p4.length h.kc, .int .i64 p5, .slice h.mA p6.length h.mc, .slice h.cA p7.length h.cc, .slice h.rA p8.length h.rc, .slice h.zA p9.length h.zc, .slice h.iA p10.length h.ic, .bool p11, .slice h.fA p12.length h.fc]) := Blk.new w [.int .i64 p1, .string p2, .string p3, .slice h.kA p4.length h.kc, .int .i64 p5, .slice h.mA p6.length h.mc, .slice h.cA p7.length h.cc, .slice h.rA p8.length h.rc, .slice h.zA p9.length h.zc, .slice h.iA p10.length h.ic, .bool p11, .slice h.fA p12.length h.fc] 29
    have HB : Hid (Below w.heap.size w (w.alloc (.cells #[.int .i64 p1, .string p2, .string p3, .slice h.kA p4.length h.kc, .int .i64 p5, .slice h.mA p6.length h.mc, .slice h.cA p7.length h.cc, .slice h.rA p8.length h.rc, .slice h.zA p9.length h.zc, .slice h.iA p10.length h.ic, .bool p11, .slice h.fA p12.length h.fc] 29))) := (Below.refl _ _).alloc (Nat.le_refl _) _
    generalize (w.alloc (.cells #[.int .i64 p1, .string p2, .string p3, .slice h.kA p4.length h.kc, .int .i64 p5, .slice h.mA p6.length h.mc, .slice h.cA p7.length h.cc, .slice h.rA p8.length h.rc, .slice h.zA p9.length h.zc, .slice h.iA p10.length h.ic, .bool p11, .slice h.fA p12.length h.fc] 29)) = W0 at *
    obtain ⟨k0, k1, k2, k3, k4, k5, k6, k7, k8, k9, k10, k11⟩ := HKB.out.cs
    go_wp2_with fail
    clear k0 k1 k2 k3 k4 k5 k6 k7 k8 k9 k10 k11
    refine (HR.out _ HB.out).mono ?_
    rintro e W1 ⟨rfl, hb⟩
    replace HKB := Lib.hid (HKB.out.below hb)
    replace HB := Lib.hid (HB.out.trans (hb.mono HB.out.size))
    clear hb HR
    try simp only at hk o1 o2 o3 o4 o6 o8 o10 o12 o14 O5 O7 O9 O11 O13 O15 lK lM lC lR lI lF
    have HO0 : Hid (W1.ownsRow w.heap.size 5 1 (.slice none ([] : List UInt8).length 0) ([] : List UInt8).length (By.bytesV [])) := World.ownsRow_nil _ _ _ _
    have hk63 : p1 ≤ 9223372036854775807 := by omega
    have m1 := numB_len p1 hk63
    have m2 := txt_len6 o1
    have m3 := txt_len6 o2
    obtain ⟨k0, k1, k2, k3, k4, k5, k6, k7, k8, k9, k10, k11⟩ := HKB.out.cs
    go_upto_region 3 with fail
    refine wp_region_held_drew (S := fun w' => w'.cell? ⟨w.heap.size, 0, none⟩ = some (.int .i64 p1) ∧ w'.cell? ⟨w.heap.size, 1, none⟩ = some (.string p2) ∧ w'.cell? ⟨w.heap.size, 2, none⟩ = some (.string p3) ∧ w'.cell? ⟨w.heap.size, 3, none⟩ = some (.slice h.kA p4.length h.kc) ∧ w'.cell? ⟨w.heap.size, 4, none⟩ = some (.int .i64 p5) ∧ w'.cell? ⟨w.heap.size, 5, none⟩ = some (.slice h.mA p6.length h.mc) ∧ w'.cell? ⟨w.heap.size, 6, none⟩ = some (.slice h.cA p7.length h.cc) ∧ w'.cell? ⟨w.heap.size, 7, none⟩ = some (.slice h.rA p8.length h.rc) ∧ w'.cell? ⟨w.heap.size, 8, none⟩ = some (.slice h.zA p9.length h.zc) ∧ w'.cell? ⟨w.heap.size, 9, none⟩ = some (.slice h.iA p10.length h.ic) ∧ w'.cell? ⟨w.heap.size, 10, none⟩ = some (.bool p11) ∧ w'.cell? ⟨w.heap.size, 11, none⟩ = some (.slice h.fA p12.length h.fc)) (by kernel_rfl) ⟨k0, k1, k2, k3, k4, k5, k6, k7, k8, k9, k10, k11⟩ (fun hHeld => ?_)
    refine tk 0 ?_
    refine tk 1 ?_
    refine tk 3 ?_
    refine tk 4 ?_
    refine tk 6 ?_
    refine tk 7 ?_
    refine wpAnyH_ready (rs := [2]) (by kernel_rfl) (by simp) ?_
    refine ac (fun K hK => ?_) AllReadyH.nil
    go_simp
    go_at_call 52
    refine (rp_num w.heap.size [] none 0 p1 _ (by exact HO0.out) (by exact HB.out.size) (by simp) hk63).mono ?_
    have hlL1 : ([] ++ numB p1).length ≤ 9 := by simpa using m1
    generalize hLL1 : [] ++ numB p1 = L1 at *
    have HLL1 := Lib.hid hLL1
    clear hLL1
    rintro e u1 ⟨A1, c1, rfl, ho, hb⟩
    replace hb := Kn.below_via (Below.refl W1.heap.size W1) hb (Nat.le_refl _) ⟨rfl, rfl, rfl, rfl⟩
    clear k0 k1 k2 k3 k4 k5 k6 k7 k8 k9 k10 k11
    replace HKB := Lib.hid (HKB.out.below hb)
    obtain ⟨k0, k1, k2, k3, k4, k5, k6, k7, k8, k9, k10, k11⟩ := HKB.out.cs
    have HOA1 := Lib.hid ho
    replace HB := Lib.hid (HB.out.trans (hb.mono HB.out.size))
    clear ho hb
    refine hK.out _ _ ⟨k0, k1, k2, k3, k4, k5, k6, k7, k8, k9, k10, k11⟩ (fun hHeld => ?_)
    clear hK K
    try simp only [Act.put, List.setIfInBounds_toArray, List.set_cons_zero, List.set_cons_succ]
    refine wpAnyH_ready (rs := [5]) (by kernel_rfl) (by simp) ?_
    refine ac (fun K hK => ?_) AllReadyH.nil
    go_simp
    go_at_call 51
    refine (rp_text w.heap.size L1 A1 c1 p2 _ (by exact HOA1.out) (by exact HB.out.size) (by omega) (by omega)).mono ?_
    have hlL2 : (L1 ++ txtB p2).length ≤ 24 := by rw [List.length_append]; omega
    generalize hLL2 : L1 ++ txtB p2 = L2 at *
    have HLL2 := Lib.hid hLL2
    clear hLL2
    rintro e u2 ⟨A2, c2, rfl, ho, hb⟩
    replace hb := Kn.below_via (Below.refl u1.heap.size u1) hb (Nat.le_refl _) ⟨rfl, rfl, rfl, rfl⟩
    clear k0 k1 k2 k3 k4 k5 k6 k7 k8 k9 k10 k11
    replace HKB := Lib.hid (HKB.out.below hb)
    obtain ⟨k0, k1, k2, k3, k4, k5, k6, k7, k8, k9, k10, k11⟩ := HKB.out.cs
    have HOA2 := Lib.hid ho
    replace HB := Lib.hid (HB.out.trans (hb.mono HB.out.size))
    clear ho hb
    refine hK.out _ _ ⟨k0, k1, k2, k3, k4, k5, k6, k7, k8, k9, k10, k11⟩ (fun hHeld => ?_)
    clear hK K
    try simp only [Act.put, List.setIfInBounds_toArray, List.set_cons_zero, List.set_cons_succ]
    refine wpAnyH_ready (rs := [8]) (by kernel_rfl) (by simp) ?_
    refine ac (fun K hK => ?_) AllReadyH.nil
    go_simp
    go_at_call 51
    refine (rp_text w.heap.size L2 A2 c2 p3 _ (by exact HOA2.out) (by exact HB.out.size) (by omega) (by omega)).mono ?_
    have hlL3 : (L2 ++ txtB p3).length ≤ 39 := by rw [List.length_append]; omega
    generalize hLL3 : L2 ++ txtB p3 = L3 at *
    have HLL3 := Lib.hid hLL3
    clear hLL3
    rintro e u3 ⟨A3, c3, rfl, ho, hb⟩
    replace hb := Kn.below_via (Below.refl u2.heap.size u2) hb (Nat.le_refl _) ⟨rfl, rfl, rfl, rfl⟩
    clear k0 k1 k2 k3 k4 k5 k6 k7 k8 k9 k10 k11
    replace HKB := Lib.hid (HKB.out.below hb)
    obtain ⟨k0, k1, k2, k3, k4, k5, k6, k7, k8, k9, k10, k11⟩ := HKB.out.cs
    have HOA3 := Lib.hid ho
    replace HB := Lib.hid (HB.out.trans (hb.mono HB.out.size))
    clear ho hb
    refine hK.out _ _ ⟨k0, k1, k2, k3, k4, k5, k6, k7, k8, k9, k10, k11⟩ (fun hHeld => ?_)
    clear hK K
    try simp only [Act.put, List.setIfInBounds_toArray, List.set_cons_zero, List.set_cons_succ]
    refine tk 9 ?_
    refine wpAnyH_done (by kernel_rfl) ?_ _
    have HH : Hid ((numB p1 ++ txtB p2) ++ txtB p3 = L3) := by show _ = _; rw [← HLL3.out, ← HLL2.out, ← HLL1.out]; rfl
    rw [HH.out] at HF
    clear HO0 HOA1 HOA2
    clear k0 k1 k2 k3 k4 k5 k6 k7 k8 k9 k10 k11
    by_cases h3 : p1 = 3
    · subst h3
      clear hk
      obtain ⟨k0, k1, k2, k3, k4, k5, k6, k7, k8, k9, k10, k11⟩ := HKB.out.cs
      go_wp2_with fail
      clear k0 k1 k2 k3 k4 k5 k6 k7 k8 k9 k10 k11
      refine (rputVec_any w.heap.size L3 A3 c3 h.fA p12.length h.fc p12 _ HOA3.out HB.out.size (HFL.out _ HB.out) (by omega) (fun x hx => by have := O15.out x hx; exact ⟨by omega, by omega⟩) (by omega)).mono ?_
      have hlL4 : (L3 ++ allB atB p12).length ≤ 3000 := by rw [List.length_append]; omega
      generalize hLL4 : L3 ++ allB atB p12 = L4 at *
      have HLL4 := Lib.hid hLL4
      clear hLL4
      rintro e u4 ⟨A4, c4, rfl, ho, hb⟩
      replace HKB := Lib.hid (HKB.out.below hb)
      have HOA4 := Lib.hid ho
      replace HB := Lib.hid (HB.out.trans (hb.mono HB.out.size))
      clear ho hb
      go_wp2
      go_ret
      have e : PF = L4 := by rw [HF.out]; first | rw [if_pos rfl, HLL4.out] | rw [if_pos trivial] | simp
      rw [e]
      exact ⟨A4, c4, rfl, HOA4.out, HB.out⟩
    · have hk12 : p1 = 1 ∨ p1 = 2 := by omega
      clear hk
      have hKl := half_len knownB L3 p4
      have HKA := Lib.hid (half_all knownB L3 p4)
      have HK0 := Lib.hid (half_zero knownB L3 p4)
      have HKS : Hid (∀ k x, p4[k]? = some x → halfB knownB L3 p4 (k + 1) = halfB knownB L3 p4 k ++ knownB x) := fun k x h => half_succ knownB L3 h
      generalize halfB knownB L3 p4 = hQ at *
      obtain ⟨k0, k1, k2, k3, k4, k5, k6, k7, k8, k9, k10, k11⟩ := HKB.out.cs
      go_wp2_with fail
      clear k0 k1 k2 k3 k4 k5 k6 k7 k8 k9 k10 k11
      refine (rp_num w.heap.size L3 A3 c3 p4.length _ HOA3.out HB.out.size (by omega) (by omega)).mono ?_
      rintro e u4 ⟨A4, c4, rfl, ho, hb⟩
      replace HKB := Lib.hid (HKB.out.below hb)
      have HOA4 := Lib.hid ho
      replace HB := Lib.hid (HB.out.trans (hb.mono HB.out.size))
      clear ho hb
      rw [← HK0.out] at HOA4 ⊢
      obtain ⟨k0, k1, k2, k3, k4, k5, k6, k7, k8, k9, k10, k11⟩ := HKB.out.cs
      go_wp2
      clear k0 k1 k2 k3 k4 k5 k6 k7 k8 k9 k10 k11
      go_loopw [3, 4] (fun b i wr => ∃ (k : Nat) (A' : Option Addr) (c' : Nat), k ≤ p4.length ∧ i = .int .i64 k ∧ b = .slice A' (hQ k).length c' ∧ Hid (wr.ownsRow w.heap.size 5 1 (.slice A' (hQ k).length c') (hQ k).length (By.bytesV (hQ k))) ∧ Hid (Below w.heap.size w wr) ∧ Hid (Blk wr w.heap.size [.int .i64 p1, .string p2, .string p3, .slice h.kA p4.length h.kc, .int .i64 p5, .slice h.mA p6.length h.mc, .slice h.cA p7.length h.cc, .slice h.rA p8.length h.rc, .slice h.zA p9.length h.zc, .slice h.iA p10.length h.ic, .bool p11, .slice h.fA p12.length h.fc])) (fun _ i _ => p4.length - (intOf i).toNat)
      case atStart => exact ⟨0, A4, c4, by omega, rfl, (by first | rfl | rw [HK0.out, List.length_append]), HOA4, HB, HKB⟩
      case round =>
        clear HOA4 HB HKB
        obtain ⟨k, A', c', hk, rfl, rfl, HO', HB, HKB⟩ := hrel
        by_cases hlt : k < p4.length
        · obtain ⟨blk, off, r, hkA, hbB, hmk, e0, e1, e2, hf⟩ := (HKM.out w (Below.refl _ _)).get (Below.refl _ _) hlt
          replace e0 := ((HB.out.mono hB).cell (p := ⟨blk, off + k * 3, none⟩) hbB).trans e0
          replace e1 := ((HB.out.mono hB).cell (p := ⟨blk, off + k * 3 + 1, none⟩) hbB).trans e1
          replace e2 := ((HB.out.mono hB).cell (p := ⟨blk, off + k * 3 + 2, none⟩) hbB).trans e2
          have hi1 : (k : Int) < (p4.length : Int) := by omega
          have hs1 := HKS.out _ _ hmk
          obtain ⟨q1, q2, q3, q4⟩ := O5.out _ (List.mem_of_getElem? hmk)
          have hKk := hKl k
          have hKk1 := hKl (k + 1)
          have Q4 := Lib.hid q4
          have HVI : Hid (∀ W, Below w.heap.size w W → Sp.IntsAt W B r.A r.v.length r.v) := fun W hb => hf.vec.keep (hb.mono hB)
          obtain ⟨rid, ru, rA, rc, rv⟩ := r
          simp only at e0 e1 e2 q1 q2 q3 Q4 HVI hs1
          have n1 := txt_len6 q1
          have n2 := numB_len ru (by omega)
          have n3 := numB_len (rv.length : Int) (by omega)
          have k3 := HKB.out.c 3 _ rfl
          rw [hkA] at k3
          have hbl : blk < wr.heap.size := Nat.lt_of_lt_of_le hbB (Nat.le_trans hB HB.out.size)
          clear hmk hf q4 hkA
          go_upto_region 11 with fail
          have hba : Below wr.heap.size wr (wr.alloc (.cells #[.int .i64 ru, .slice rA rv.length rc] 67)) := (Below.refl _ _).alloc (Nat.le_refl _) _
          have g0 : (wr.alloc (.cells #[.int .i64 ru, .slice rA rv.length rc] 67)).cell? ⟨wr.heap.size, 0, none⟩ = some (.int .i64 ru) := by simp [go_sem]
          have g1 : (wr.alloc (.cells #[.int .i64 ru, .slice rA rv.length rc] 67)).cell? ⟨wr.heap.size, 1, none⟩ = some (.slice rA rv.length rc) := by simp [go_sem]
          have gz : wr.heap.size < (wr.alloc (.cells #[.int .i64 ru, .slice rA rv.length rc] 67)).heap.size := by simp
          replace k3 := (hba.cell (p := ⟨w.heap.size, 3, none⟩) HKB.out.z).trans k3
          replace e0 := (hba.cell (p := ⟨blk, off + k * 3, none⟩) hbl).trans e0
          replace hbl := Nat.lt_of_lt_of_le hbl hba.size
          replace HKB := Lib.hid (HKB.out.below hba)
          replace HO' := Lib.hid (By.own_below HO'.out hba)
          replace HB := Lib.hid (HB.out.trans (hba.mono HB.out.size))
          generalize (wr.alloc (.cells #[.int .i64 ru, .slice rA rv.length rc] 67)) = WQ at *
          generalize wr.heap.size = Q at *
          clear hba e1 e2
          refine wp_region_held_drew (S := fun w' => w'.cell? ⟨w.heap.size, 3, none⟩ = some (.slice (some ⟨blk, off, none⟩) p4.length h.kc) ∧ w'.cell? ⟨blk, off + k * 3, none⟩ = some (.string rid) ∧ w'.cell? ⟨Q, 0, none⟩ = some (.int .i64 ru) ∧ w'.cell? ⟨Q, 1, none⟩ = some (.slice rA rv.length rc)) (by kernel_rfl) ⟨k3, e0, g0, g1⟩ (fun hHeld => ?_)
          refine tk 0 ?_
          refine tk 1 ?_
          refine tk 2 ?_
          refine tk 3 ?_
          refine tk 4 ?_
          refine tk 5 ?_
          refine tk 6 ?_
          refine tk 8 ?_
          refine tk 9 ?_
          refine tk 11 ?_
          refine tk 12 ?_
          refine tk 13 ?_
          refine wpAnyH_ready (rs := [7]) (by kernel_rfl) (by simp) ?_
          refine ac (fun K hK => ?_) AllReadyH.nil
          go_simp
          go_at_call 51
          refine (rp_text w.heap.size (hQ k) A' c' rid _ (by exact HO'.out) (by exact HB.out.size) (by omega) (by omega)).mono ?_
          have hlM1 : (hQ k ++ txtB rid).length ≤ 4000000 := by rw [List.length_append]; omega
          generalize hLM1 : hQ k ++ txtB rid = M1 at *
          have HLM1 := Lib.hid hLM1
          clear hLM1
          rintro e v1 ⟨B1, d1, rfl, ho, hb⟩
          replace hb := Kn.below_via (Below.refl WQ.heap.size WQ) hb (Nat.le_refl _) ⟨rfl, rfl, rfl, rfl⟩
          replace k3 := (hb.cell (p := ⟨w.heap.size, 3, none⟩) HKB.out.z).trans k3
          replace e0 := (hb.cell (p := ⟨blk, off + k * 3, none⟩) hbl).trans e0
          replace g0 := (hb.cell (p := ⟨Q, 0, none⟩) gz).trans g0
          replace g1 := (hb.cell (p := ⟨Q, 1, none⟩) gz).trans g1
          replace gz := Nat.lt_of_lt_of_le gz hb.size
          replace hbl := Nat.lt_of_lt_of_le hbl hb.size
          replace HKB := Lib.hid (HKB.out.below hb)
          have HOB1 := Lib.hid ho
          replace HB := Lib.hid (HB.out.trans (hb.mono HB.out.size))
          clear ho hb
          refine hK.out _ _ ⟨k3, e0, g0, g1⟩ (fun hHeld => ?_)
          clear hK K
          try simp only [Act.put, List.setIfInBounds_toArray, List.set_cons_zero, List.set_cons_succ]
          refine wpAnyH_ready (rs := [10]) (by kernel_rfl) (by simp) ?_
          refine ac (fun K hK => ?_) AllReadyH.nil
          go_simp
          go_at_call 52
          refine (rp_num w.heap.size M1 B1 d1 ru _ (by exact HOB1.out) (by exact HB.out.size) (by omega) (by omega)).mono ?_
          have hlM2 : (M1 ++ numB ru).length ≤ 4000100 := by rw [List.length_append]; omega
          generalize hLM2 : M1 ++ numB ru = M2 at *
          have HLM2 := Lib.hid hLM2
          clear hLM2
          rintro e v2 ⟨B2, d2, rfl, ho, hb⟩
          replace hb := Kn.below_via (Below.refl v1.heap.size v1) hb (Nat.le_refl _) ⟨rfl, rfl, rfl, rfl⟩
          replace k3 := (hb.cell (p := ⟨w.heap.size, 3, none⟩) HKB.out.z).trans k3
          replace e0 := (hb.cell (p := ⟨blk, off + k * 3, none⟩) hbl).trans e0
          replace g0 := (hb.cell (p := ⟨Q, 0, none⟩) gz).trans g0
          replace g1 := (hb.cell (p := ⟨Q, 1, none⟩) gz).trans g1
          replace gz := Nat.lt_of_lt_of_le gz hb.size
          replace hbl := Nat.lt_of_lt_of_le hbl hb.size
          replace HKB := Lib.hid (HKB.out.below hb)
          have HOB2 := Lib.hid ho
          replace HB := Lib.hid (HB.out.trans (hb.mono HB.out.size))
          clear ho hb
          refine hK.out _ _ ⟨k3, e0, g0, g1⟩ (fun hHeld => ?_)
          clear hK K
          try simp only [Act.put, List.setIfInBounds_toArray, List.set_cons_zero, List.set_cons_succ]
          refine wpAnyH_ready (rs := [14]) (by kernel_rfl) (by simp) ?_
          refine ac (fun K hK => ?_) AllReadyH.nil
          go_simp
          go_at_call 52
          refine (rp_num w.heap.size M2 B2 d2 rv.length _ (by exact HOB2.out) (by exact HB.out.size) (by omega) (by omega)).mono ?_
          rintro e v3 ⟨B3, d3, rfl, ho, hb⟩
          replace hb := Kn.below_via (Below.refl v2.heap.size v2) hb (Nat.le_refl _) ⟨rfl, rfl, rfl, rfl⟩
          replace k3 := (hb.cell (p := ⟨w.heap.size, 3, none⟩) HKB.out.z).trans k3
          replace e0 := (hb.cell (p := ⟨blk, off + k * 3, none⟩) hbl).trans e0
          replace g0 := (hb.cell (p := ⟨Q, 0, none⟩) gz).trans g0
          replace g1 := (hb.cell (p := ⟨Q, 1, none⟩) gz).trans g1
          replace gz := Nat.lt_of_lt_of_le gz hb.size
          replace hbl := Nat.lt_of_lt_of_le hbl hb.size
          replace HKB := Lib.hid (HKB.out.below hb)
          have HOB3 := Lib.hid ho
          replace HB := Lib.hid (HB.out.trans (hb.mono HB.out.size))
          clear ho hb
          refine hK.out _ _ ⟨k3, e0, g0, g1⟩ (fun hHeld => ?_)
          clear hK K
          try simp only [Act.put, List.setIfInBounds_toArray, List.set_cons_zero, List.set_cons_succ]
          refine tk 15 ?_
          refine wpAnyH_done (by kernel_rfl) ?_ _
          have hMl := half_len numB M2 rv
          have HMA := Lib.hid (half_all numB M2 rv)
          have HM0 := Lib.hid (half_zero numB M2 rv)
          have HMS : Hid (∀ j x, rv[j]? = some x → halfB numB M2 rv (j + 1) = halfB numB M2 rv j ++ numB x) := fun j x h => half_succ numB M2 h
          have lV := all_len (f := numB) 9 4096 q3 (by omega) fun y hy => numB_len y (by have := Q4.out y hy; omega)
          generalize halfB numB M2 rv = hM at *
          rw [← HM0.out] at HOB3 ⊢
          have HEND : Hid (hM rv.length = hQ (k + 1)) := by show _ = _; rw [HMA.out, hs1, ← HLM2.out, ← HLM1.out]; simp [knownB]
          go_wp2
          go_loopw [3, 6] (fun b i wi => ∃ (j : Nat) (A'' : Option Addr) (c'' : Nat), j ≤ rv.length ∧ i = .int .i64 j ∧ b = .slice A'' (hM j).length c'' ∧ Hid (wi.ownsRow w.heap.size 5 1 (.slice A'' (hM j).length c'') (hM j).length (By.bytesV (hM j))) ∧ Hid (Below w.heap.size w wi) ∧ Hid (Blk wi w.heap.size [.int .i64 p1, .string p2, .string p3, .slice h.kA p4.length h.kc, .int .i64 p5, .slice h.mA p6.length h.mc, .slice h.cA p7.length h.cc, .slice h.rA p8.length h.rc, .slice h.zA p9.length h.zc, .slice h.iA p10.length h.ic, .bool p11, .slice h.fA p12.length h.fc]) ∧ Hid (wi.cell? ⟨Q, 1, none⟩ = some (.slice rA rv.length rc)) ∧ Q < wi.heap.size) (fun _ i _ => rv.length - (intOf i).toNat)
          case atStart => exact ⟨0, B3, d3, by omega, rfl, (by first | rfl | rw [HM0.out, List.length_append]), HOB3, HB, HKB, g1, gz⟩
          case round =>
            clear HOB3 HB HKB g0 g1 gz k3 e0 hbl
            obtain ⟨j, A'', c'', hj, rfl, rfl, HO2, HB, HKB, HG1, gz⟩ := hrel
            have g1 := HG1.out
            by_cases hjl : j < rv.length
            · have hVi : Sp.IntsAt _ B rA rv.length rv := HVI.out _ HB.out
              obtain ⟨bq, oq, x, rfl, hbq, hxj, y0⟩ := ints_get hVi (Below.refl _ _) hjl
              have hi2 : (j : Int) < (rv.length : Int) := by omega
              have hms := HMS.out _ _ hxj
              have hMj := hMl j
              have hxb := Q4.out _ (List.mem_of_getElem? hxj)
              have HC := Lib.hid (rp_num w.heap.size (hM j) A'' c'' x _ HO2.out HB.out.size (by omega) (by omega))
              rw [← hms] at HC
              clear hms hxj
              go_wp2_with fail
              refine HC.out.mono ?_
              rintro e v4 ⟨B4, d4, rfl, ho, hb⟩
              have HO4 := Lib.hid ho
              replace HKB := Lib.hid (HKB.out.below hb)
              have HG2 := Lib.hid ((hb.cell (p := ⟨Q, 1, none⟩) gz).trans g1)
              replace gz := Nat.lt_of_lt_of_le gz hb.size
              replace HB := Lib.hid (HB.out.trans (hb.mono HB.out.size))
              clear ho hb g1 HG1
              go_wp2
              go_roundw
              case rel => exact ⟨j + 1, B4, d4, by omega, by go_num, rfl, HO4, HB, HKB, HG2, gz⟩
              case measure => simp [intOf]; omega
            · obtain rfl : j = rv.length := by omega
              have hi2 : ¬ (rv.length : Int) < (rv.length : Int) := by omega
              rw [HEND.out] at HO2 ⊢
              go_wp2
              go_roundw
              case rel => exact ⟨k + 1, A'', c'', by omega, by go_num, rfl, HO2, HB, HKB⟩
              case measure => simp [intOf]; omega
        · obtain rfl : k = p4.length := by omega
          have hi1 : ¬ (p4.length : Int) < (p4.length : Int) := by omega
          rw [HKA.out] at HO' ⊢
          have hL4 : (L3 ++ allB knownB p4).length ≤ 3000100 := by rw [List.length_append]; omega
          generalize hLL4 : L3 ++ allB knownB p4 = L4 at *
          have HLL4 := Lib.hid hLL4
          clear hLL4
          have m5 := numB_len p5 (by omega)
          obtain ⟨k0, k1, k2, k3, k4, k5, k6, k7, k8, k9, k10, k11⟩ := HKB.out.cs
          go_upto_region 16 with fail
          refine wp_region_held_drew (S := fun w' => w'.cell? ⟨w.heap.size, 0, none⟩ = some (.int .i64 p1) ∧ w'.cell? ⟨w.heap.size, 1, none⟩ = some (.string p2) ∧ w'.cell? ⟨w.heap.size, 2, none⟩ = some (.string p3) ∧ w'.cell? ⟨w.heap.size, 3, none⟩ = some (.slice h.kA p4.length h.kc) ∧ w'.cell? ⟨w.heap.size, 4, none⟩ = some (.int .i64 p5) ∧ w'.cell? ⟨w.heap.size, 5, none⟩ = some (.slice h.mA p6.length h.mc) ∧ w'.cell? ⟨w.heap.size, 6, none⟩ = some (.slice h.cA p7.length h.cc) ∧ w'.cell? ⟨w.heap.size, 7, none⟩ = some (.slice h.rA p8.length h.rc) ∧ w'.cell? ⟨w.heap.size, 8, none⟩ = some (.slice h.zA p9.length h.zc) ∧ w'.cell? ⟨w.heap.size, 9, none⟩ = some (.slice h.iA p10.length h.ic) ∧ w'.cell? ⟨w.heap.size, 10, none⟩ = some (.bool p11) ∧ w'.cell? ⟨w.heap.size, 11, none⟩ = some (.slice h.fA p12.length h.fc)) (by kernel_rfl) ⟨k0, k1, k2, k3, k4, k5, k6, k7, k8, k9, k10, k11⟩ (fun hHeld => ?_)
          refine tk 0 ?_
          refine tk 1 ?_
          refine tk 2 ?_
          refine tk 4 ?_
          refine tk 5 ?_
          refine tk 6 ?_
          refine wpAnyH_ready (rs := [3]) (by kernel_rfl) (by simp) ?_
          refine ac (fun K hK => ?_) AllReadyH.nil
          go_simp
          go_at_call 52
          refine (rp_num w.heap.size L4 A' c' p5 _ (by exact HO'.out) (by exact HB.out.size) (by omega) (by omega)).mono ?_
          have hlL5 : (L4 ++ numB p5).length ≤ 3000200 := by rw [List.length_append]; omega
          generalize hLL5 : L4 ++ numB p5 = L5 at *
          have HLL5 := Lib.hid hLL5
          clear hLL5
          rintro e u5 ⟨A5, c5, rfl, ho, hb⟩
          replace hb := Kn.below_via (Below.refl wr.heap.size wr) hb (Nat.le_refl _) ⟨rfl, rfl, rfl, rfl⟩
          clear k0 k1 k2 k3 k4 k5 k6 k7 k8 k9 k10 k11
          replace HKB := Lib.hid (HKB.out.below hb)
          obtain ⟨k0, k1, k2, k3, k4, k5, k6, k7, k8, k9, k10, k11⟩ := HKB.out.cs
          have HOA5 := Lib.hid ho
          replace HB := Lib.hid (HB.out.trans (hb.mono HB.out.size))
          clear ho hb
          refine hK.out _ _ ⟨k0, k1, k2, k3, k4, k5, k6, k7, k8, k9, k10, k11⟩ (fun hHeld => ?_)
          clear hK K
          try simp only [Act.put, List.setIfInBounds_toArray, List.set_cons_zero, List.set_cons_succ]
          refine wpAnyH_ready (rs := [7]) (by kernel_rfl) (by simp) ?_
          refine ac (fun K hK => ?_) AllReadyH.nil
          go_simp
          go_at_call 52
          refine (rp_num w.heap.size L5 A5 c5 p6.length _ (by exact HOA5.out) (by exact HB.out.size) (by omega) (by omega)).mono ?_
          rintro e u6 ⟨A6, c6, rfl, ho, hb⟩
          replace hb := Kn.below_via (Below.refl u5.heap.size u5) hb (Nat.le_refl _) ⟨rfl, rfl, rfl, rfl⟩
          clear k0 k1 k2 k3 k4 k5 k6 k7 k8 k9 k10 k11
          replace HKB := Lib.hid (HKB.out.below hb)
          obtain ⟨k0, k1, k2, k3, k4, k5, k6, k7, k8, k9, k10, k11⟩ := HKB.out.cs
          have HOA6 := Lib.hid ho
          replace HB := Lib.hid (HB.out.trans (hb.mono HB.out.size))
          clear ho hb
          refine hK.out _ _ ⟨k0, k1, k2, k3, k4, k5, k6, k7, k8, k9, k10, k11⟩ (fun hHeld => ?_)
          clear hK K
          try simp only [Act.put, List.setIfInBounds_toArray, List.set_cons_zero, List.set_cons_succ]
          refine tk 8 ?_
          refine wpAnyH_done (by kernel_rfl) ?_ _
          have hlhm := half_len txtB L5 p6
          have HAhm := Lib.hid (half_all txtB L5 p6)
          have HZhm := Lib.hid (half_zero txtB L5 p6)
          have HShm : Hid (∀ k x, p6[k]? = some x → halfB txtB L5 p6 (k + 1) = halfB txtB L5 p6 k ++ txtB x) := fun k x h => half_succ txtB L5 h
          generalize halfB txtB L5 p6 = hm at *
          rw [← HZhm.out] at HOA6 ⊢
          clear k0 k1 k2 k3 k4 k5 k6 k7 k8 k9 k10 k11
          obtain ⟨k0, k1, k2, k3, k4, k5, k6, k7, k8, k9, k10, k11⟩ := HKB.out.cs
          go_wp2
          clear k0 k1 k2 k3 k4 k5 k6 k7 k8 k9 k10 k11
          go_loopw [3, 7] (fun b i wr => ∃ (k : Nat) (A' : Option Addr) (c' : Nat), k ≤ p6.length ∧ i = .int .i64 k ∧ b = .slice A' (hm k).length c' ∧ Hid (wr.ownsRow w.heap.size 5 1 (.slice A' (hm k).length c') (hm k).length (By.bytesV (hm k))) ∧ Hid (Below w.heap.size w wr) ∧ Hid (Blk wr w.heap.size [.int .i64 p1, .string p2, .string p3, .slice h.kA p4.length h.kc, .int .i64 p5, .slice h.mA p6.length h.mc, .slice h.cA p7.length h.cc, .slice h.rA p8.length h.rc, .slice h.zA p9.length h.zc, .slice h.iA p10.length h.ic, .bool p11, .slice h.fA p12.length h.fc])) (fun _ i _ => p6.length - (intOf i).toNat)
          case atStart => exact ⟨0, A6, c6, by omega, rfl, (by first | rfl | rw [HZhm.out, List.length_append]), HOA6, HB, HKB⟩
          case round =>
            clear HOA6 HB HKB
            obtain ⟨k, A', c', hk, rfl, rfl, HO', HB, HKB⟩ := hrel
            by_cases hlt : k < p6.length
            · obtain ⟨blk, off, x, hmA, hbB, hmk, e0⟩ := (HMB.out wr HB.out).text (Below.refl _ _) hlt
              have hi1 : (k : Int) < (p6.length : Int) := by omega
              have hms := HShm.out _ _ hmk
              have hlk := hlhm k
              have hxb := O7.out _ (List.mem_of_getElem? hmk)
              have k5 := HKB.out.c 5 _ rfl
              rw [hmA] at k5
              have HC := Lib.hid (rp_text w.heap.size (hm k) A' c' x _ HO'.out HB.out.size (by omega) (by omega))
              rw [← hms] at HC
              clear hms hmk hmA
              go_wp2_with fail
              refine HC.out.mono ?_
              rintro e v4 ⟨B4, d4, rfl, ho, hb⟩
              have HO4 := Lib.hid ho
              replace HKB := Lib.hid (HKB.out.below hb)
              replace HB := Lib.hid (HB.out.trans (hb.mono HB.out.size))
              clear ho hb k5 e0
              go_wp2
              go_roundw
              case rel => exact ⟨k + 1, B4, d4, by omega, by go_num, rfl, HO4, HB, HKB⟩
              case measure => simp [intOf]; omega
            · obtain rfl : k = p6.length := by omega
              have hi1 : ¬ (p6.length : Int) < (p6.length : Int) := by omega
              rw [HAhm.out] at HO' ⊢
              have hlL6 : (L5 ++ allB txtB p6).length ≤ 3003000 := by rw [List.length_append]; omega
              generalize hLL6 : L5 ++ allB txtB p6 = L6 at *
              have HLL6 := Lib.hid hLL6
              clear hLL6
              obtain ⟨k0, k1, k2, k3, k4, k5, k6, k7, k8, k9, k10, k11⟩ := HKB.out.cs
              go_upto_region 21 with fail
              refine wp_region_held_drew (S := fun w' => w'.cell? ⟨w.heap.size, 0, none⟩ = some (.int .i64 p1) ∧ w'.cell? ⟨w.heap.size, 1, none⟩ = some (.string p2) ∧ w'.cell? ⟨w.heap.size, 2, none⟩ = some (.string p3) ∧ w'.cell? ⟨w.heap.size, 3, none⟩ = some (.slice h.kA p4.length h.kc) ∧ w'.cell? ⟨w.heap.size, 4, none⟩ = some (.int .i64 p5) ∧ w'.cell? ⟨w.heap.size, 5, none⟩ = some (.slice h.mA p6.length h.mc) ∧ w'.cell? ⟨w.heap.size, 6, none⟩ = some (.slice h.cA p7.length h.cc) ∧ w'.cell? ⟨w.heap.size, 7, none⟩ = some (.slice h.rA p8.length h.rc) ∧ w'.cell? ⟨w.heap.size, 8, none⟩ = some (.slice h.zA p9.length h.zc) ∧ w'.cell? ⟨w.heap.size, 9, none⟩ = some (.slice h.iA p10.length h.ic) ∧ w'.cell? ⟨w.heap.size, 10, none⟩ = some (.bool p11) ∧ w'.cell? ⟨w.heap.size, 11, none⟩ = some (.slice h.fA p12.length h.fc)) (by kernel_rfl) ⟨k0, k1, k2, k3, k4, k5, k6, k7, k8, k9, k10, k11⟩ (fun hHeld => ?_)
              refine tk 0 ?_
              refine tk 1 ?_
              refine tk 2 ?_
              refine tk 4 ?_
              refine tk 5 ?_
              refine tk 6 ?_
              refine wpAnyH_ready (rs := [3]) (by kernel_rfl) (by simp) ?_
              refine ac (fun K hK => ?_) AllReadyH.nil
              go_simp
              go_at_call 53
              refine (rputVec_any w.heap.size L6 A' c' h.cA p7.length h.cc p7 _ (by exact HO'.out) (by exact HB.out.size) (by exact HCE.out _ (Zo.below_drewish HB.out)) (by omega) (fun x hx => by have := O9.out x hx; exact ⟨by omega, by omega⟩) (by omega)).mono ?_
              have hlL7 : (L6 ++ allB atB p7).length ≤ 3006000 := by rw [List.length_append]; omega
              generalize hLL7 : L6 ++ allB atB p7 = L7 at *
              have HLL7 := Lib.hid hLL7
              clear hLL7
              rintro e u7 ⟨A7, c7, rfl, ho, hb⟩
              replace hb := Kn.below_via (Below.refl wr.heap.size wr) hb (Nat.le_refl _) ⟨rfl, rfl, rfl, rfl⟩
              clear k0 k1 k2 k3 k4 k5 k6 k7 k8 k9 k10 k11
              replace HKB := Lib.hid (HKB.out.below hb)
              obtain ⟨k0, k1, k2, k3, k4, k5, k6, k7, k8, k9, k10, k11⟩ := HKB.out.cs
              have HOA7 := Lib.hid ho
              replace HB := Lib.hid (HB.out.trans (hb.mono HB.out.size))
              clear ho hb
              refine hK.out _ _ ⟨k0, k1, k2, k3, k4, k5, k6, k7, k8, k9, k10, k11⟩ (fun hHeld => ?_)
              clear hK K
              try simp only [Act.put, List.setIfInBounds_toArray, List.set_cons_zero, List.set_cons_succ]
              refine wpAnyH_ready (rs := [7]) (by kernel_rfl) (by simp) ?_
              refine ac (fun K hK => ?_) AllReadyH.nil
              go_simp
              go_at_call 52
              refine (rp_num w.heap.size L7 A7 c7 p8.length _ (by exact HOA7.out) (by exact HB.out.size) (by omega) (by omega)).mono ?_
              rintro e u8 ⟨A8, c8, rfl, ho, hb⟩
              replace hb := Kn.below_via (Below.refl u7.heap.size u7) hb (Nat.le_refl _) ⟨rfl, rfl, rfl, rfl⟩
              clear k0 k1 k2 k3 k4 k5 k6 k7 k8 k9 k10 k11
              replace HKB := Lib.hid (HKB.out.below hb)
              obtain ⟨k0, k1, k2, k3, k4, k5, k6, k7, k8, k9, k10, k11⟩ := HKB.out.cs
              have HOA8 := Lib.hid ho
              replace HB := Lib.hid (HB.out.trans (hb.mono HB.out.size))
              clear ho hb
              refine hK.out _ _ ⟨k0, k1, k2, k3, k4, k5, k6, k7, k8, k9, k10, k11⟩ (fun hHeld => ?_)
              clear hK K
              try simp only [Act.put, List.setIfInBounds_toArray, List.set_cons_zero, List.set_cons_succ]
              refine tk 8 ?_
              refine wpAnyH_done (by kernel_rfl) ?_ _
              have hlhr := half_len rowB L7 p8
              have HAhr := Lib.hid (half_all rowB L7 p8)
              have HZhr := Lib.hid (half_zero rowB L7 p8)
              have HShr : Hid (∀ k x, p8[k]? = some x → halfB rowB L7 p8 (k + 1) = halfB rowB L7 p8 k ++ rowB x) := fun k x h => half_succ rowB L7 h
              generalize halfB rowB L7 p8 = hr at *
              rw [← HZhr.out] at HOA8 ⊢
              clear k0 k1 k2 k3 k4 k5 k6 k7 k8 k9 k10 k11
              obtain ⟨k0, k1, k2, k3, k4, k5, k6, k7, k8, k9, k10, k11⟩ := HKB.out.cs
              go_wp2
              clear k0 k1 k2 k3 k4 k5 k6 k7 k8 k9 k10 k11
              go_loopw [3, 8] (fun b i wr => ∃ (k : Nat) (A' : Option Addr) (c' : Nat), k ≤ p8.length ∧ i = .int .i64 k ∧ b = .slice A' (hr k).length c' ∧ Hid (wr.ownsRow w.heap.size 5 1 (.slice A' (hr k).length c') (hr k).length (By.bytesV (hr k))) ∧ Hid (Below w.heap.size w wr) ∧ Hid (Blk wr w.heap.size [.int .i64 p1, .string p2, .string p3, .slice h.kA p4.length h.kc, .int .i64 p5, .slice h.mA p6.length h.mc, .slice h.cA p7.length h.cc, .slice h.rA p8.length h.rc, .slice h.zA p9.length h.zc, .slice h.iA p10.length h.ic, .bool p11, .slice h.fA p12.length h.fc])) (fun _ i _ => p8.length - (intOf i).toNat)
              case atStart => exact ⟨0, A8, c8, by omega, rfl, (by first | rfl | rw [HZhr.out, List.length_append]), HOA8, HB, HKB⟩
              case round =>
                clear HOA8 HB HKB
                obtain ⟨k, A', c', hk, rfl, rfl, HO', HB, HKB⟩ := hrel
                by_cases hlt : k < p8.length
                · obtain ⟨blk, off, r, hmA, hbB, hmk, e0, e1, hf⟩ := (HRW.out w (Below.refl _ _)).get (Below.refl _ _) hlt
                  have hi1 : (k : Int) < (p8.length : Int) := by omega
                  have hms := HShr.out _ _ hmk
                  have hlk := hlhr k
                  obtain ⟨q1, q2, q3⟩ := O11.out _ (List.mem_of_getElem? hmk)
                  have Q3 := Lib.hid q3
                  have HVI : Hid (∀ W, Below w.heap.size w W → VecAt W W.heap.size r.A r.v.length r.v) := fun W hb => (hf.vec.keep (hb.mono hB)).more (Nat.le_trans hB hb.size)
                  replace e0 := ((HB.out.mono hB).cell (p := ⟨blk, off + k * 2, none⟩) hbB).trans e0
                  replace e1 := ((HB.out.mono hB).cell (p := ⟨blk, off + k * 2 + 1, none⟩) hbB).trans e1
                  obtain ⟨rid, rA, rc, rv⟩ := r
                  simp only at e0 e1 q1 q2 Q3 HVI hms
                  have n1 := txt_len6 q1
                  have lV := all_len (f := atB) 24 64 q2 (by omega) fun y hy => at_len (q3 y hy)
                  have k7 := HKB.out.c 7 _ rfl
                  rw [hmA] at k7
                  have hbl : blk < wr.heap.size := Nat.lt_of_lt_of_le hbB (Nat.le_trans hB HB.out.size)
                  clear hmk hf q3 hmA
                  go_upto_region 25 with fail
                  refine wp_region_held_drew (S := fun w' => w'.cell? ⟨w.heap.size, 7, none⟩ = some (.slice (some ⟨blk, off, none⟩) p8.length h.rc) ∧ w'.cell? ⟨blk, off + k * 2, none⟩ = some (.string rid) ∧ w'.cell? ⟨blk, off + k * 2 + 1, none⟩ = some (.slice rA rv.length rc)) (by kernel_rfl) ⟨k7, e0, e1⟩ (fun hHeld => ?_)
                  refine tk 0 ?_
                  refine tk 1 ?_
                  refine tk 2 ?_
                  refine tk 3 ?_
                  refine tk 4 ?_
                  refine tk 5 ?_
                  refine tk 6 ?_
                  refine tk 8 ?_
                  refine tk 9 ?_
                  refine tk 10 ?_
                  refine tk 11 ?_
                  refine tk 12 ?_
                  refine tk 13 ?_
                  refine wpAnyH_ready (rs := [7]) (by kernel_rfl) (by simp) ?_
                  refine ac (fun K hK => ?_) AllReadyH.nil
                  go_simp
                  go_at_call 51
                  refine (rp_text w.heap.size (hr k) A' c' rid _ (by exact HO'.out) (by exact HB.out.size) (by omega) (by omega)).mono ?_
                  have hlM1 : (hr k ++ txtB rid).length ≤ 4000000 := by rw [List.length_append]; omega
                  generalize hLM1 : hr k ++ txtB rid = M1 at *
                  have HLM1 := Lib.hid hLM1
                  clear hLM1
                  rintro e v1 ⟨B1, d1, rfl, ho, hb⟩
                  replace hb := Kn.below_via (Below.refl wr.heap.size wr) hb (Nat.le_refl _) ⟨rfl, rfl, rfl, rfl⟩
                  replace k7 := (hb.cell (p := ⟨w.heap.size, 7, none⟩) HKB.out.z).trans k7
                  replace e0 := (hb.cell (p := ⟨blk, off + k * 2, none⟩) hbl).trans e0
                  replace e1 := (hb.cell (p := ⟨blk, off + k * 2 + 1, none⟩) hbl).trans e1
                  replace hbl := Nat.lt_of_lt_of_le hbl hb.size
                  replace HKB := Lib.hid (HKB.out.below hb)
                  have HOB1 := Lib.hid ho
                  replace HB := Lib.hid (HB.out.trans (hb.mono HB.out.size))
                  clear ho hb
                  refine hK.out _ _ ⟨k7, e0, e1⟩ (fun hHeld => ?_)
                  clear hK K
                  try simp only [Act.put, List.setIfInBounds_toArray, List.set_cons_zero, List.set_cons_succ]
                  refine wpAnyH_ready (rs := [14]) (by kernel_rfl) (by simp) ?_
                  refine ac (fun K hK => ?_) AllReadyH.nil
                  go_simp
                  go_at_call 53
                  refine (rputVec_any w.heap.size M1 B1 d1 rA rv.length rc rv _ (by exact HOB1.out) (by exact HB.out.size) (HVI.out _ HB.out) (by omega) (fun x hx => by have := Q3.out x hx; exact ⟨by omega, by omega⟩) (by omega)).mono ?_
                  rintro e v2 ⟨B2, d2, rfl, ho, hb⟩
                  replace hb := Kn.below_via (Below.refl v1.heap.size v1) hb (Nat.le_refl _) ⟨rfl, rfl, rfl, rfl⟩
                  replace k7 := (hb.cell (p := ⟨w.heap.size, 7, none⟩) HKB.out.z).trans k7
                  replace e0 := (hb.cell (p := ⟨blk, off + k * 2, none⟩) hbl).trans e0
                  replace e1 := (hb.cell (p := ⟨blk, off + k * 2 + 1, none⟩) hbl).trans e1
                  replace hbl := Nat.lt_of_lt_of_le hbl hb.size
                  replace HKB := Lib.hid (HKB.out.below hb)
                  have HOB2 := Lib.hid ho
                  replace HB := Lib.hid (HB.out.trans (hb.mono HB.out.size))
                  clear ho hb
                  refine hK.out _ _ ⟨k7, e0, e1⟩ (fun hHeld => ?_)
                  clear hK K
                  try simp only [Act.put, List.setIfInBounds_toArray, List.set_cons_zero, List.set_cons_succ]
                  refine tk 15 ?_
                  refine wpAnyH_done (by kernel_rfl) ?_ _
                  have HEND : Hid (M1 ++ allB atB rv = hr (k + 1)) := by show _ = _; rw [hms, ← HLM1.out]; simp [rowB]
                  rw [HEND.out] at HOB2 ⊢
                  go_wp2
                  go_roundw
                  case rel => exact ⟨k + 1, B2, d2, by omega, by go_num, (by first | rfl | rw [← HEND.out, List.length_append]), HOB2, HB, HKB⟩
                  case measure => simp [intOf]; omega
                · obtain rfl : k = p8.length := by omega
                  have hi1 : ¬ (p8.length : Int) < (p8.length : Int) := by omega
                  rw [HAhr.out] at HO' ⊢
                  have hlL8 : (L7 ++ allB rowB p8).length ≤ 3300000 := by rw [List.length_append]; omega
                  generalize hLL8 : L7 ++ allB rowB p8 = L8 at *
                  have HLL8 := Lib.hid hLL8
                  clear hLL8
                  rcases hk12 with hk1 | hk1
                  · subst hk1
                    obtain ⟨k0, k1, k2, k3, k4, k5, k6, k7, k8, k9, k10, k11⟩ := HKB.out.cs
                    go_wp2_with fail
                    clear k0 k1 k2 k3 k4 k5 k6 k7 k8 k9 k10 k11
                    refine (HTX.out _ HB.out).mono ?_
                    rintro e u9 ⟨rfl, hb⟩
                    replace HKB := Lib.hid (HKB.out.below hb)
                    replace HO' := Lib.hid (By.own_below HO'.out hb)
                    replace HB := Lib.hid (HB.out.trans (hb.mono HB.out.size))
                    clear hb
                    have hz9 := txtB_len zt (by omega)
                    obtain ⟨k0, k1, k2, k3, k4, k5, k6, k7, k8, k9, k10, k11⟩ := HKB.out.cs
                    go_wp2_with fail
                    clear k0 k1 k2 k3 k4 k5 k6 k7 k8 k9 k10 k11
                    refine (rp_text w.heap.size L8 A' c' zt _ HO'.out HB.out.size (by omega) (by omega)).mono ?_
                    have hlL9 : (L8 ++ txtB zt).length ≤ 3400000 := by rw [List.length_append]; omega
                    generalize hLL9 : L8 ++ txtB zt = L9 at *
                    have HLL9 := Lib.hid hLL9
                    clear hLL9
                    rintro e u10 ⟨A9, c9, rfl, ho, hb⟩
                    replace HKB := Lib.hid (HKB.out.below hb)
                    have HOA9 := Lib.hid ho
                    replace HB := Lib.hid (HB.out.trans (hb.mono HB.out.size))
                    clear ho hb
                    obtain ⟨k0, k1, k2, k3, k4, k5, k6, k7, k8, k9, k10, k11⟩ := HKB.out.cs
                    go_wp2_with fail
                    clear k0 k1 k2 k3 k4 k5 k6 k7 k8 k9 k10 k11
                    refine (rp_num w.heap.size L9 A9 c9 p10.length _ HOA9.out HB.out.size (by omega) (by omega)).mono ?_
                    rintro e u11 ⟨A10, c10, rfl, ho, hb⟩
                    replace HKB := Lib.hid (HKB.out.below hb)
                    have HOA10 := Lib.hid ho
                    replace HB := Lib.hid (HB.out.trans (hb.mono HB.out.size))
                    clear ho hb
                    have hlhi := half_len By.bytesF L9 p10
                    have HAhi := Lib.hid (half_all By.bytesF L9 p10)
                    have HZhi := Lib.hid (half_zero By.bytesF L9 p10)
                    have HShi : Hid (∀ k x, p10[k]? = some x → halfB By.bytesF L9 p10 (k + 1) = halfB By.bytesF L9 p10 k ++ By.bytesF x) := fun k x h => half_succ By.bytesF L9 h
                    generalize halfB By.bytesF L9 p10 = hi at *
                    rw [← HZhi.out] at HOA10 ⊢
                    obtain ⟨k0, k1, k2, k3, k4, k5, k6, k7, k8, k9, k10, k11⟩ := HKB.out.cs
                    go_wp2
                    clear k0 k1 k2 k3 k4 k5 k6 k7 k8 k9 k10 k11
                    go_loopw [3, 9] (fun b i wr => ∃ (k : Nat) (A' : Option Addr) (c' : Nat), k ≤ p10.length ∧ i = .int .i64 k ∧ b = .slice A' (hi k).length c' ∧ Hid (wr.ownsRow w.heap.size 5 1 (.slice A' (hi k).length c') (hi k).length (By.bytesV (hi k))) ∧ Hid (Below w.heap.size w wr) ∧ Hid (Blk wr w.heap.size [.int .i64 1, .string p2, .string p3, .slice h.kA p4.length h.kc, .int .i64 p5, .slice h.mA p6.length h.mc, .slice h.cA p7.length h.cc, .slice h.rA p8.length h.rc, .slice h.zA p9.length h.zc, .slice h.iA p10.length h.ic, .bool p11, .slice h.fA p12.length h.fc])) (fun _ i _ => p10.length - (intOf i).toNat)
                    case atStart => exact ⟨0, A10, c10, by omega, rfl, (by first | rfl | rw [HZhi.out, List.length_append]), HOA10, HB, HKB⟩
                    case round =>
                      clear HOA10 HB HKB
                      obtain ⟨k, A', c', hk, rfl, rfl, HO', HB, HKB⟩ := hrel
                      by_cases hlt : k < p10.length
                      · obtain ⟨blk, off, hiA, hbB, z, hzk, hcell⟩ := (HIT.out wr HB.out).get hlt
                        obtain ⟨e0, e1, e2, e3, e4, e5, e6, e7, e8⟩ := By.cellsI_at hcell
                        have hi1 : (k : Int) < (p10.length : Int) := by omega
                        have hms := HShi.out _ _ hzk
                        have hlk := hlhi k
                        have hzr := O13.out _ (List.mem_of_getElem? hzk)
                        have k9 := HKB.out.c 9 _ rfl
                        rw [hiA] at k9
                        have HC := Lib.hid (rp_item w.heap.size (hi k) A' c' z _ HO'.out HB.out.size (by omega) hzr)
                        rw [← hms] at HC
                        clear hms hzk hcell hiA
                        obtain ⟨key, ver, dead, x, y, text, held⟩ := z
                        go_wp2_with fail
                        refine HC.out.mono ?_
                        rintro e v4 ⟨B4, d4, rfl, ho, hb⟩
                        have HO4 := Lib.hid ho
                        replace HKB := Lib.hid (HKB.out.below hb)
                        replace HB := Lib.hid (HB.out.trans (hb.mono HB.out.size))
                        clear ho hb k9 e0 e1 e2 e3 e4 e5 e6 e7 e8
                        go_wp2
                        go_roundw
                        case rel => exact ⟨k + 1, B4, d4, by omega, by go_num, rfl, HO4, HB, HKB⟩
                        case measure => simp [intOf]; omega
                      · obtain rfl : k = p10.length := by omega
                        have hi1 : ¬ (p10.length : Int) < (p10.length : Int) := by omega
                        rw [HAhi.out] at HO' ⊢
                        have hlL11 : (L9 ++ allB By.bytesF p10).length ≤ 3500000 := by rw [List.length_append]; omega
                        generalize hLL11 : L9 ++ allB By.bytesF p10 = L11 at *
                        have HLL11 := Lib.hid hLL11
                        clear hLL11
                        obtain ⟨k0, k1, k2, k3, k4, k5, k6, k7, k8, k9, k10, k11⟩ := HKB.out.cs
                        go_wp2
                        clear k0 k1 k2 k3 k4 k5 k6 k7 k8 k9 k10 k11
                        go_ret
                        have e : PF = L11 := by rw [HF.out]; simp
                        rw [e]
                        exact ⟨A', c', rfl, HO'.out, HB.out⟩
                  · subst hk1
                    obtain ⟨k0, k1, k2, k3, k4, k5, k6, k7, k8, k9, k10, k11⟩ := HKB.out.cs
                    go_wp2_with fail
                    clear k0 k1 k2 k3 k4 k5 k6 k7 k8 k9 k10 k11
                    refine (rp_num w.heap.size L8 A' c' p10.length _ HO'.out HB.out.size (by omega) (by omega)).mono ?_
                    rintro e u11 ⟨A10, c10, rfl, ho, hb⟩
                    replace HKB := Lib.hid (HKB.out.below hb)
                    have HOA10 := Lib.hid ho
                    replace HB := Lib.hid (HB.out.trans (hb.mono HB.out.size))
                    clear ho hb
                    have hlhi := half_len By.bytesF L8 p10
                    have HAhi := Lib.hid (half_all By.bytesF L8 p10)
                    have HZhi := Lib.hid (half_zero By.bytesF L8 p10)
                    have HShi : Hid (∀ k x, p10[k]? = some x → halfB By.bytesF L8 p10 (k + 1) = halfB By.bytesF L8 p10 k ++ By.bytesF x) := fun k x h => half_succ By.bytesF L8 h
                    generalize halfB By.bytesF L8 p10 = hi at *
                    rw [← HZhi.out] at HOA10 ⊢
                    obtain ⟨k0, k1, k2, k3, k4, k5, k6, k7, k8, k9, k10, k11⟩ := HKB.out.cs
                    go_wp2
                    clear k0 k1 k2 k3 k4 k5 k6 k7 k8 k9 k10 k11
                    go_loopw [3, 9] (fun b i wr => ∃ (k : Nat) (A' : Option Addr) (c' : Nat), k ≤ p10.length ∧ i = .int .i64 k ∧ b = .slice A' (hi k).length c' ∧ Hid (wr.ownsRow w.heap.size 5 1 (.slice A' (hi k).length c') (hi k).length (By.bytesV (hi k))) ∧ Hid (Below w.heap.size w wr) ∧ Hid (Blk wr w.heap.size [.int .i64 2, .string p2, .string p3, .slice h.kA p4.length h.kc, .int .i64 p5, .slice h.mA p6.length h.mc, .slice h.cA p7.length h.cc, .slice h.rA p8.length h.rc, .slice h.zA p9.length h.zc, .slice h.iA p10.length h.ic, .bool p11, .slice h.fA p12.length h.fc])) (fun _ i _ => p10.length - (intOf i).toNat)
                    case atStart => exact ⟨0, A10, c10, by omega, rfl, (by first | rfl | rw [HZhi.out, List.length_append]), HOA10, HB, HKB⟩
                    case round =>
                      clear HOA10 HB HKB
                      obtain ⟨k, A', c', hk, rfl, rfl, HO', HB, HKB⟩ := hrel
                      by_cases hlt : k < p10.length
                      · obtain ⟨blk, off, hiA, hbB, z, hzk, hcell⟩ := (HIT.out wr HB.out).get hlt
                        obtain ⟨e0, e1, e2, e3, e4, e5, e6, e7, e8⟩ := By.cellsI_at hcell
                        have hi1 : (k : Int) < (p10.length : Int) := by omega
                        have hms := HShi.out _ _ hzk
                        have hlk := hlhi k
                        have hzr := O13.out _ (List.mem_of_getElem? hzk)
                        have k9 := HKB.out.c 9 _ rfl
                        rw [hiA] at k9
                        have HC := Lib.hid (rp_item w.heap.size (hi k) A' c' z _ HO'.out HB.out.size (by omega) hzr)
                        rw [← hms] at HC
                        clear hms hzk hcell hiA
                        obtain ⟨key, ver, dead, x, y, text, held⟩ := z
                        go_wp2_with fail
                        refine HC.out.mono ?_
                        rintro e v4 ⟨B4, d4, rfl, ho, hb⟩
                        have HO4 := Lib.hid ho
                        replace HKB := Lib.hid (HKB.out.below hb)
                        replace HB := Lib.hid (HB.out.trans (hb.mono HB.out.size))
                        clear ho hb k9 e0 e1 e2 e3 e4 e5 e6 e7 e8
                        go_wp2
                        go_roundw
                        case rel => exact ⟨k + 1, B4, d4, by omega, by go_num, rfl, HO4, HB, HKB⟩
                        case measure => simp [intOf]; omega
                      · obtain rfl : k = p10.length := by omega
                        have hi1 : ¬ (p10.length : Int) < (p10.length : Int) := by omega
                        rw [HAhi.out] at HO' ⊢
                        have hlL11 : (L8 ++ allB By.bytesF p10).length ≤ 3500000 := by rw [List.length_append]; omega
                        generalize hLL11 : L8 ++ allB By.bytesF p10 = L11 at *
                        have HLL11 := Lib.hid hLL11
                        clear hLL11
                        rcases p11 with _ | _
                        · skip
                          have m12 := numB_len 0 (by omega)
                          obtain ⟨k0, k1, k2, k3, k4, k5, k6, k7, k8, k9, k10, k11⟩ := HKB.out.cs
                          go_wp2_with fail
                          clear k0 k1 k2 k3 k4 k5 k6 k7 k8 k9 k10 k11
                          refine (rp_num w.heap.size L11 A' c' 0 _ HO'.out HB.out.size (by omega) (by omega)).mono ?_
                          have hlL12 : (L11 ++ numB 0).length ≤ 3600000 := by rw [List.length_append]; omega
                          generalize hLL12 : L11 ++ numB 0 = L12 at *
                          have HLL12 := Lib.hid hLL12
                          clear hLL12
                          rintro e u12 ⟨A12, c12, rfl, ho, hb⟩
                          replace HKB := Lib.hid (HKB.out.below hb)
                          have HOA12 := Lib.hid ho
                          replace HB := Lib.hid (HB.out.trans (hb.mono HB.out.size))
                          clear ho hb
                          go_wp2
                          go_ret
                          have e : PF = L12 := by rw [← HLL12.out, HF.out]; simp [truthF]
                          rw [e]
                          exact ⟨A12, c12, rfl, HOA12.out, HB.out⟩
                        · skip
                          have m12 := numB_len 1 (by omega)
                          obtain ⟨k0, k1, k2, k3, k4, k5, k6, k7, k8, k9, k10, k11⟩ := HKB.out.cs
                          go_wp2_with fail
                          clear k0 k1 k2 k3 k4 k5 k6 k7 k8 k9 k10 k11
                          refine (rp_num w.heap.size L11 A' c' 1 _ HO'.out HB.out.size (by omega) (by omega)).mono ?_
                          have hlL12 : (L11 ++ numB 1).length ≤ 3600000 := by rw [List.length_append]; omega
                          generalize hLL12 : L11 ++ numB 1 = L12 at *
                          have HLL12 := Lib.hid hLL12
                          clear hLL12
                          rintro e u12 ⟨A12, c12, rfl, ho, hb⟩
                          replace HKB := Lib.hid (HKB.out.below hb)
                          have HOA12 := Lib.hid ho
                          replace HB := Lib.hid (HB.out.trans (hb.mono HB.out.size))
                          clear ho hb
                          go_wp2
                          go_ret
                          have e : PF = L12 := by rw [← HLL12.out, HF.out]; simp [truthF]
                          rw [e]
                          exact ⟨A12, c12, rfl, HOA12.out, HB.out⟩
end Go.Proofs.YtbookbgfipbaoaaGreatDoor
