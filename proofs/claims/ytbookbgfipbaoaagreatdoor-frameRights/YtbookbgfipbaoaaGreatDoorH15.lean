/- frame: Same and Right. -/
import Derived.Test.YtbookbgfipbaoaaGreatDoorH14
import Derived.Test.YtbookbgfipbaoaaGreatDoorH13
import Derived.Lib.AtoiTie
import Derived.Lib.ItoaMem
import Derived.Lib.SplitLaws
namespace Go.Proofs.YtbookbgfipbaoaaGreatDoor
open Go.RowKit

theorem beqT_no {a b : ByteArray} (h : ¬ a = b) : (a.toList == b.toList) = false := by rw [beq_eq_false_iff_ne]; exact fun e => h (By.toList_inj e)
theorem bneT_no {a b : ByteArray} (h : ¬ a = b) : (a.toList != b.toList) = true := by unfold bne; rw [beqT_no h]; rfl
theorem drawnN_below {w w' : World} {B : Nat} (h : ∃ q, w' = w.drewN q) : Below B w w' := by
  obtain ⟨q, rfl⟩ := h
  exact below_drewN (Below.refl _ _) q
set_option maxRecDepth 100000 in
set_option maxHeartbeats 4000000 in
theorem same12_any (f g : Frm) (h h' : Lie) (B : Nat) (w : World) (hB : B ≤ w.heap.size) (ha : FrmAt w B f h) (hg : FrmAt w B g h') (na : FewF f) (ng : FewF g) :
    Calls Tryz.prog 18 #[frmV f h, frmV g h'] w fun e w' => e = .returned (.bool (sameFrm f g)) ∧ Below w.heap.size w w' := by
  have HF : Hid (sameFrm f g = ((decide (f.kind = g.kind) && (decide (f.src = g.src) && decide (f.dst = g.dst))) && ((Kn.sameM f.know g.know && (decide (f.clock = g.clock) && decide (f.members = g.members))) && ((decide (f.certs = g.certs) && (Mx.sameM f.rows g.rows && decide (f.zone = g.zone))) && (decide (f.items = g.items) && (decide (f.whole = g.whole) && decide (f.floor = g.floor))))))) := rfl
  have HC1 : Hid (∀ W, Below w.heap.size w W → Calls Tryz.prog 68 #[.slice h.kA f.know.length h.kc, .slice h'.kA g.know.length h'.kc] W fun e w' => e = .returned (.bool (Kn.sameM f.know g.know)) ∧ Below W.heap.size W w') := fun W hb => Kn.sameM_any _ _ _ _ _ _ _ _ B W (Nat.le_trans hB hb.size) ((ha.know.keep (hb.mono hB))) ((hg.know.keep (hb.mono hB))) (by have := na.know.1; omega) (fun z hz => by have := na.know.2 z hz; omega)
  have HC2 : Hid (∀ W, Below w.heap.size w W → Calls Tryz.prog 69 #[.slice h.mA f.members.length h.mc, .slice h'.mA g.members.length h'.mc] W fun e w' => e = .returned (.bool (decide (f.members = g.members))) ∧ Below W.heap.size W w') := fun W hb => (idsEq_any _ _ _ _ _ _ _ _ B W (ha.members.keep (hb.mono hB)) (hg.members.keep (hb.mono hB)) (by have := na.members; omega) (by have := ng.members; omega)).mono fun e w1 h => ⟨h.1, drawn_below h.2.out _⟩
  have HC3 : Hid (∀ W, Below w.heap.size w W → Calls Tryz.prog 70 #[.slice h.cA f.certs.length h.cc, .slice h'.cA g.certs.length h'.cc] W fun e w' => e = .returned (.bool (decide (f.certs = g.certs))) ∧ Below W.heap.size W w') := fun W hb => (same_any _ _ _ _ _ _ _ _ B W (ha.certs.keep (hb.mono hB)) (hg.certs.keep (hb.mono hB)) (by have := na.certs; omega) (by have := ng.certs; omega)).mono fun e w1 h => ⟨h.1, drawn_below h.2.out _⟩
  have HC4 : Hid (∀ W, Below w.heap.size w W → Calls Tryz.prog 71 #[.slice h.rA f.rows.length h.rc, .slice h'.rA g.rows.length h'.rc] W fun e w' => e = .returned (.bool (Mx.sameM f.rows g.rows)) ∧ Below W.heap.size W w') := fun W hb => Mx.sameM_any _ _ _ _ _ _ _ _ B W (Nat.le_trans hB hb.size) (ha.rows.keep (hb.mono hB)) (hg.rows.keep (hb.mono hB)) (by have := na.rows.1; omega) (fun z hz => by have := na.rows.2 z hz; omega) (fun z hz => by have := ng.rows.2 z hz; omega)
  have HC5 : Hid (∀ W, Below w.heap.size w W → Calls Tryz.prog 72 #[.slice h.zA f.zone.length h.zc, .slice h'.zA g.zone.length h'.zc] W fun e w' => e = .returned (.bool (decide (f.zone = g.zone))) ∧ Below W.heap.size W w') := fun W hb => by
      obtain ⟨zs, z1, z2⟩ := ha.zone
      obtain ⟨ys, y1, y2⟩ := hg.zone
      exact (zoneSame_any _ _ _ zs _ _ _ _ ys _ B W (z1.keep (hb.mono hB)) (y1.keep (hb.mono hB)) (by have := na.zone.1; omega) (by have := ng.zone.1; omega) z2 y2 na.zone.2 ng.zone.2).mono fun e w1 h => ⟨h.1, drawnN_below h.2⟩
  have HC6 : Hid (∀ W, Below w.heap.size w W → Calls Tryz.prog 73 #[.slice h.iA f.items.length h.ic, .slice h'.iA g.items.length h'.ic] W fun e w' => e = .returned (.bool (decide (f.items = g.items))) ∧ Below W.heap.size W w') := fun W hb => (itemsEq_any _ _ _ _ _ _ _ _ B W (ha.items.keep (hb.mono hB)) (hg.items.keep (hb.mono hB)) (by have := na.items.1; omega) (by have := ng.items.1; omega) na.items.2 ng.items.2).mono fun e w1 h => ⟨h.1, drawnN_below h.2⟩
  have HC7 : Hid (∀ W, Below w.heap.size w W → Calls Tryz.prog 70 #[.slice h.fA f.floor.length h.fc, .slice h'.fA g.floor.length h'.fc] W fun e w' => e = .returned (.bool (decide (f.floor = g.floor))) ∧ Below W.heap.size W w') := fun W hb => (same_any _ _ _ _ _ _ _ _ B W (ha.floor.keep (hb.mono hB)) (hg.floor.keep (hb.mono hB)) (by have := na.floor; omega) (by have := ng.floor; omega)).mono fun e w1 h => ⟨h.1, drawn_below h.2.out _⟩
  generalize sameFrm f g = RS at *
  generalize Kn.sameM f.know g.know = b1 at *
  generalize decide (f.members = g.members) = b2 at *
  generalize decide (f.certs = g.certs) = b3 at *
  generalize Mx.sameM f.rows g.rows = b4 at *
  generalize decide (f.zone = g.zone) = b5 at *
  generalize decide (f.items = g.items) = b6 at *
  generalize decide (f.floor = g.floor) = b7 at *
  clear ha hg na ng hB
  unfold frmV
  obtain ⟨p1, p2, p3, p4, p5, p6, p7, p8, p9, p10, p11, p12⟩ := f
  obtain ⟨q1, q2, q3, q4, q5, q6, q7, q8, q9, q10, q11, q12⟩ := g
  simp only at HF HC1 HC2 HC3 HC4 HC5 HC6 HC7 ⊢
  go_enter Tryz.func18, Tryz.ntmps18
  go_upto_region 1 with fail
  have HKB : Hid (Blk ((w.alloc (.cells #[.int .i64 p1, .string p2, .string p3, .slice h.kA p4.length h.kc, .int .i64 p5, .slice h.mA p6.length h.mc, .slice h.cA p7.length h.cc, .slice h.rA p8.length h.rc, .slice h.zA p9.length h.zc, .slice h.iA p10.length h.ic, .bool p11, .slice h.fA p12.length h.fc] 45)).alloc (.cells #[.int .i64 q1, .string q2, .string q3, .slice h'.kA q4.length h'.kc, .int .i64 q5, .slice h'.mA q6.length h'.mc, .slice h'.cA q7.length h'.cc, .slice h'.rA q8.length h'.rc, .slice h'.zA q9.length h'.zc, .slice h'.iA q10.length h'.ic, .bool q11, .slice h'.fA q12.length h'.fc] 45)) w.heap.size [.int .i64 p1, .string p2, .string p3, .slice h.kA p4.length h.kc, .int .i64 p5, .slice h.mA p6.length h.mc, .slice h.cA p7.length h.cc, .slice h.rA p8.length h.rc, .slice h.zA p9.length h.zc, .slice h.iA p10.length h.ic, .bool p11, .slice h.fA p12.length h.fc]) := (Blk.new w [.int .i64 p1, .string p2, .string p3, .slice h.kA p4.length h.kc, .int .i64 p5, .slice h.mA p6.length h.mc, .slice h.cA p7.length h.cc, .slice h.rA p8.length h.rc, .slice h.zA p9.length h.zc, .slice h.iA p10.length h.ic, .bool p11, .slice h.fA p12.length h.fc] 45).below ((Below.refl _ _).alloc (Nat.le_refl _) _)
  have HJB : Hid (Blk ((w.alloc (.cells #[.int .i64 p1, .string p2, .string p3, .slice h.kA p4.length h.kc, .int .i64 p5, .slice h.mA p6.length h.mc, .slice h.cA p7.length h.cc, .slice h.rA p8.length h.rc, .slice h.zA p9.length h.zc, .slice h.iA p10.length h.ic, .bool p11, .slice h.fA p12.length h.fc] 45)).alloc (.cells #[.int .i64 q1, .string q2, .string q3, .slice h'.kA q4.length h'.kc, .int .i64 q5, .slice h'.mA q6.length h'.mc, .slice h'.cA q7.length h'.cc, .slice h'.rA q8.length h'.rc, .slice h'.zA q9.length h'.zc, .slice h'.iA q10.length h'.ic, .bool q11, .slice h'.fA q12.length h'.fc] 45)) (w.heap.size + 1) [.int .i64 q1, .string q2, .string q3, .slice h'.kA q4.length h'.kc, .int .i64 q5, .slice h'.mA q6.length h'.mc, .slice h'.cA q7.length h'.cc, .slice h'.rA q8.length h'.rc, .slice h'.zA q9.length h'.zc, .slice h'.iA q10.length h'.ic, .bool q11, .slice h'.fA q12.length h'.fc]) := by have := Blk.new (w.alloc (.cells #[.int .i64 p1, .string p2, .string p3, .slice h.kA p4.length h.kc, .int .i64 p5, .slice h.mA p6.length h.mc, .slice h.cA p7.length h.cc, .slice h.rA p8.length h.rc, .slice h.zA p9.length h.zc, .slice h.iA p10.length h.ic, .bool p11, .slice h.fA p12.length h.fc] 45)) [.int .i64 q1, .string q2, .string q3, .slice h'.kA q4.length h'.kc, .int .i64 q5, .slice h'.mA q6.length h'.mc, .slice h'.cA q7.length h'.cc, .slice h'.rA q8.length h'.rc, .slice h'.zA q9.length h'.zc, .slice h'.iA q10.length h'.ic, .bool q11, .slice h'.fA q12.length h'.fc] 45; exact Lib.hid (by simpa using this)
  have HB : Hid (Below w.heap.size w ((w.alloc (.cells #[.int .i64 p1, .string p2, .string p3, .slice h.kA p4.length h.kc, .int .i64 p5, .slice h.mA p6.length h.mc, .slice h.cA p7.length h.cc, .slice h.rA p8.length h.rc, .slice h.zA p9.length h.zc, .slice h.iA p10.length h.ic, .bool p11, .slice h.fA p12.length h.fc] 45)).alloc (.cells #[.int .i64 q1, .string q2, .string q3, .slice h'.kA q4.length h'.kc, .int .i64 q5, .slice h'.mA q6.length h'.mc, .slice h'.cA q7.length h'.cc, .slice h'.rA q8.length h'.rc, .slice h'.zA q9.length h'.zc, .slice h'.iA q10.length h'.ic, .bool q11, .slice h'.fA q12.length h'.fc] 45))) := ((Below.refl _ _).alloc (Nat.le_refl _) _).alloc (by simp) _
  generalize ((w.alloc (.cells #[.int .i64 p1, .string p2, .string p3, .slice h.kA p4.length h.kc, .int .i64 p5, .slice h.mA p6.length h.mc, .slice h.cA p7.length h.cc, .slice h.rA p8.length h.rc, .slice h.zA p9.length h.zc, .slice h.iA p10.length h.ic, .bool p11, .slice h.fA p12.length h.fc] 45)).alloc (.cells #[.int .i64 q1, .string q2, .string q3, .slice h'.kA q4.length h'.kc, .int .i64 q5, .slice h'.mA q6.length h'.mc, .slice h'.cA q7.length h'.cc, .slice h'.rA q8.length h'.rc, .slice h'.zA q9.length h'.zc, .slice h'.iA q10.length h'.ic, .bool q11, .slice h'.fA q12.length h'.fc] 45)) = W0 at *
  generalize hX : w.heap.size + 1 = X at *
  by_cases hp : p1 = q1
  rotate_left
  · skip
    have hn : (p1 != q1) = true := by simp [hp]
    obtain ⟨k0, k1, k2, k3, k4, k5, k6, k7, k8, k9, k10, k11⟩ := HKB.out.cs
    obtain ⟨j0, j1, j2, j3, j4, j5, j6, j7, j8, j9, j10, j11⟩ := HJB.out.cs
    go_wp2
    go_ret
    exact ⟨ret_bool (by rw [HF.out]; simp [hp]), HB.out⟩
  subst hp
  by_cases hp : p2 = q2
  rotate_left
  · skip
    have hn := beqT_no hp
    have hn2 := bneT_no hp
    obtain ⟨k0, k1, k2, k3, k4, k5, k6, k7, k8, k9, k10, k11⟩ := HKB.out.cs
    obtain ⟨j0, j1, j2, j3, j4, j5, j6, j7, j8, j9, j10, j11⟩ := HJB.out.cs
    go_wp2
    go_ret
    exact ⟨ret_bool (by rw [HF.out]; simp [hp]), HB.out⟩
  subst hp
  by_cases hp : p3 = q3
  rotate_left
  · skip
    have hn := beqT_no hp
    have hn2 := bneT_no hp
    obtain ⟨k0, k1, k2, k3, k4, k5, k6, k7, k8, k9, k10, k11⟩ := HKB.out.cs
    obtain ⟨j0, j1, j2, j3, j4, j5, j6, j7, j8, j9, j10, j11⟩ := HJB.out.cs
    go_wp2
    go_ret
    exact ⟨ret_bool (by rw [HF.out]; simp [hp]), HB.out⟩
  subst hp
  obtain ⟨k0, k1, k2, k3, k4, k5, k6, k7, k8, k9, k10, k11⟩ := HKB.out.cs
  obtain ⟨j0, j1, j2, j3, j4, j5, j6, j7, j8, j9, j10, j11⟩ := HJB.out.cs
  go_wp2_with fail
  clear k0 k1 k2 k3 k4 k5 k6 k7 k8 k9 k10 k11
  clear j0 j1 j2 j3 j4 j5 j6 j7 j8 j9 j10 j11
  refine (HC1.out _ HB.out).mono ?_
  rintro e w1 ⟨rfl, hb⟩
  replace HKB := Lib.hid (HKB.out.below hb)
  replace HJB := Lib.hid (HJB.out.below hb)
  replace HB := Lib.hid (HB.out.trans (hb.mono HB.out.size))
  clear hb HC1
  cases b1
  · skip
    obtain ⟨k0, k1, k2, k3, k4, k5, k6, k7, k8, k9, k10, k11⟩ := HKB.out.cs
    obtain ⟨j0, j1, j2, j3, j4, j5, j6, j7, j8, j9, j10, j11⟩ := HJB.out.cs
    go_wp2
    go_ret
    exact ⟨ret_bool (by rw [HF.out]; simp), HB.out⟩
  by_cases hp : p5 = q5
  rotate_left
  · skip
    have hn : (p5 != q5) = true := by simp [hp]
    obtain ⟨k0, k1, k2, k3, k4, k5, k6, k7, k8, k9, k10, k11⟩ := HKB.out.cs
    obtain ⟨j0, j1, j2, j3, j4, j5, j6, j7, j8, j9, j10, j11⟩ := HJB.out.cs
    go_wp2
    go_ret
    exact ⟨ret_bool (by rw [HF.out]; simp [hp]), HB.out⟩
  subst hp
  obtain ⟨k0, k1, k2, k3, k4, k5, k6, k7, k8, k9, k10, k11⟩ := HKB.out.cs
  obtain ⟨j0, j1, j2, j3, j4, j5, j6, j7, j8, j9, j10, j11⟩ := HJB.out.cs
  go_wp2_with fail
  clear k0 k1 k2 k3 k4 k5 k6 k7 k8 k9 k10 k11
  clear j0 j1 j2 j3 j4 j5 j6 j7 j8 j9 j10 j11
  refine (HC2.out _ HB.out).mono ?_
  rintro e w1 ⟨rfl, hb⟩
  replace HKB := Lib.hid (HKB.out.below hb)
  replace HJB := Lib.hid (HJB.out.below hb)
  replace HB := Lib.hid (HB.out.trans (hb.mono HB.out.size))
  clear hb HC2
  cases b2
  · skip
    obtain ⟨k0, k1, k2, k3, k4, k5, k6, k7, k8, k9, k10, k11⟩ := HKB.out.cs
    obtain ⟨j0, j1, j2, j3, j4, j5, j6, j7, j8, j9, j10, j11⟩ := HJB.out.cs
    go_wp2
    go_ret
    exact ⟨ret_bool (by rw [HF.out]; simp), HB.out⟩
  obtain ⟨k0, k1, k2, k3, k4, k5, k6, k7, k8, k9, k10, k11⟩ := HKB.out.cs
  obtain ⟨j0, j1, j2, j3, j4, j5, j6, j7, j8, j9, j10, j11⟩ := HJB.out.cs
  go_wp2_with fail
  clear k0 k1 k2 k3 k4 k5 k6 k7 k8 k9 k10 k11
  clear j0 j1 j2 j3 j4 j5 j6 j7 j8 j9 j10 j11
  refine (HC3.out _ HB.out).mono ?_
  rintro e w1 ⟨rfl, hb⟩
  replace HKB := Lib.hid (HKB.out.below hb)
  replace HJB := Lib.hid (HJB.out.below hb)
  replace HB := Lib.hid (HB.out.trans (hb.mono HB.out.size))
  clear hb HC3
  cases b3
  · skip
    obtain ⟨k0, k1, k2, k3, k4, k5, k6, k7, k8, k9, k10, k11⟩ := HKB.out.cs
    obtain ⟨j0, j1, j2, j3, j4, j5, j6, j7, j8, j9, j10, j11⟩ := HJB.out.cs
    go_wp2
    go_ret
    exact ⟨ret_bool (by rw [HF.out]; simp), HB.out⟩
  obtain ⟨k0, k1, k2, k3, k4, k5, k6, k7, k8, k9, k10, k11⟩ := HKB.out.cs
  obtain ⟨j0, j1, j2, j3, j4, j5, j6, j7, j8, j9, j10, j11⟩ := HJB.out.cs
  go_wp2_with fail
  clear k0 k1 k2 k3 k4 k5 k6 k7 k8 k9 k10 k11
  clear j0 j1 j2 j3 j4 j5 j6 j7 j8 j9 j10 j11
  refine (HC4.out _ HB.out).mono ?_
  rintro e w1 ⟨rfl, hb⟩
  replace HKB := Lib.hid (HKB.out.below hb)
  replace HJB := Lib.hid (HJB.out.below hb)
  replace HB := Lib.hid (HB.out.trans (hb.mono HB.out.size))
  clear hb HC4
  cases b4
  · skip
    obtain ⟨k0, k1, k2, k3, k4, k5, k6, k7, k8, k9, k10, k11⟩ := HKB.out.cs
    obtain ⟨j0, j1, j2, j3, j4, j5, j6, j7, j8, j9, j10, j11⟩ := HJB.out.cs
    go_wp2
    go_ret
    exact ⟨ret_bool (by rw [HF.out]; simp), HB.out⟩
  obtain ⟨k0, k1, k2, k3, k4, k5, k6, k7, k8, k9, k10, k11⟩ := HKB.out.cs
  obtain ⟨j0, j1, j2, j3, j4, j5, j6, j7, j8, j9, j10, j11⟩ := HJB.out.cs
  go_wp2_with fail
  clear k0 k1 k2 k3 k4 k5 k6 k7 k8 k9 k10 k11
  clear j0 j1 j2 j3 j4 j5 j6 j7 j8 j9 j10 j11
  refine (HC5.out _ HB.out).mono ?_
  rintro e w1 ⟨rfl, hb⟩
  replace HKB := Lib.hid (HKB.out.below hb)
  replace HJB := Lib.hid (HJB.out.below hb)
  replace HB := Lib.hid (HB.out.trans (hb.mono HB.out.size))
  clear hb HC5
  cases b5
  · skip
    obtain ⟨k0, k1, k2, k3, k4, k5, k6, k7, k8, k9, k10, k11⟩ := HKB.out.cs
    obtain ⟨j0, j1, j2, j3, j4, j5, j6, j7, j8, j9, j10, j11⟩ := HJB.out.cs
    go_wp2
    go_ret
    exact ⟨ret_bool (by rw [HF.out]; simp), HB.out⟩
  obtain ⟨k0, k1, k2, k3, k4, k5, k6, k7, k8, k9, k10, k11⟩ := HKB.out.cs
  obtain ⟨j0, j1, j2, j3, j4, j5, j6, j7, j8, j9, j10, j11⟩ := HJB.out.cs
  go_wp2_with fail
  clear k0 k1 k2 k3 k4 k5 k6 k7 k8 k9 k10 k11
  clear j0 j1 j2 j3 j4 j5 j6 j7 j8 j9 j10 j11
  refine (HC6.out _ HB.out).mono ?_
  rintro e w1 ⟨rfl, hb⟩
  replace HKB := Lib.hid (HKB.out.below hb)
  replace HJB := Lib.hid (HJB.out.below hb)
  replace HB := Lib.hid (HB.out.trans (hb.mono HB.out.size))
  clear hb HC6
  cases b6
  · skip
    obtain ⟨k0, k1, k2, k3, k4, k5, k6, k7, k8, k9, k10, k11⟩ := HKB.out.cs
    obtain ⟨j0, j1, j2, j3, j4, j5, j6, j7, j8, j9, j10, j11⟩ := HJB.out.cs
    go_wp2
    go_ret
    exact ⟨ret_bool (by rw [HF.out]; simp), HB.out⟩
  by_cases hp : p11 = q11
  rotate_left
  · skip
    have hn : (p11 == q11) = false := by simp [hp]
    obtain ⟨k0, k1, k2, k3, k4, k5, k6, k7, k8, k9, k10, k11⟩ := HKB.out.cs
    obtain ⟨j0, j1, j2, j3, j4, j5, j6, j7, j8, j9, j10, j11⟩ := HJB.out.cs
    go_wp2
    go_ret
    exact ⟨ret_bool (by rw [HF.out]; simp [hp]), HB.out⟩
  subst hp
  obtain ⟨k0, k1, k2, k3, k4, k5, k6, k7, k8, k9, k10, k11⟩ := HKB.out.cs
  obtain ⟨j0, j1, j2, j3, j4, j5, j6, j7, j8, j9, j10, j11⟩ := HJB.out.cs
  go_wp2_with fail
  clear k0 k1 k2 k3 k4 k5 k6 k7 k8 k9 k10 k11
  clear j0 j1 j2 j3 j4 j5 j6 j7 j8 j9 j10 j11
  refine (HC7.out _ HB.out).mono ?_
  rintro e w1 ⟨rfl, hb⟩
  replace HKB := Lib.hid (HKB.out.below hb)
  replace HJB := Lib.hid (HJB.out.below hb)
  replace HB := Lib.hid (HB.out.trans (hb.mono HB.out.size))
  clear hb HC7
  obtain ⟨k0, k1, k2, k3, k4, k5, k6, k7, k8, k9, k10, k11⟩ := HKB.out.cs
  obtain ⟨j0, j1, j2, j3, j4, j5, j6, j7, j8, j9, j10, j11⟩ := HJB.out.cs
  go_wp2
  go_ret
  exact ⟨ret_bool (by rw [HF.out]; simp), HB.out⟩
set_option maxRecDepth 100000 in
set_option maxHeartbeats 4000000 in
theorem rightNews_any (f : Frm) (h : Lie) (B : Nat) (w : World) (hB : B ≤ w.heap.size) (ha : FrmAt w B f h) (na : FewF f) :
    Calls Tryz.prog 23 #[frmV f h] w fun e w' => e = .returned (.bool (rightNewsF f)) ∧ Below w.heap.size w w' := by
  have HF : Hid (rightNewsF f = ((decide (f.know.length ≤ 64) && Kn.rightM f.know) && ((decide (0 ≤ f.clock) && decide (f.clock ≤ 1048576)) && (rightMembersF f.members && (rightVecF f.certs && (rightRowsF f.rows && rightItemsF f.items)))))) := rfl
  have HC1 : Hid (∀ W, Below w.heap.size w W → Calls Tryz.prog 92 #[.slice h.kA f.know.length h.kc] W fun e w' => e = .returned (.bool (Kn.rightM f.know)) ∧ Below W.heap.size W w') := fun W hb => Kn.rightM_any _ _ _ _ B W (Nat.le_trans hB hb.size) (ha.know.keep (hb.mono hB)) (by have := na.know.1; omega) (fun z hz => by have := na.know.2 z hz; omega)
  have HC2 : Hid (∀ W, Below w.heap.size w W → Calls Tryz.prog 93 #[.slice h.mA f.members.length h.mc] W fun e w' => e = .returned (.bool (rightMembersF f.members)) ∧ Below W.heap.size W w') := fun W hb => rightMembers_any _ _ _ _ B W (Nat.le_trans hB hb.size) (ha.members.keep (hb.mono hB)) (by have := na.members; omega)
  have HC3 : Hid (∀ W, Below w.heap.size w W → Calls Tryz.prog 26 #[.slice h.cA f.certs.length h.cc] W fun e w' => e = .returned (.bool (rightVecF f.certs)) ∧ Below W.heap.size W w') := fun W hb => rightVec_any _ _ _ _ B W (Nat.le_trans hB hb.size) (ha.certs.keep (hb.mono hB)) (by have := na.certs; omega)
  have HC4 : Hid (∀ W, Below w.heap.size w W → Calls Tryz.prog 94 #[.slice h.rA f.rows.length h.rc] W fun e w' => e = .returned (.bool (rightRowsF f.rows)) ∧ Below W.heap.size W w') := fun W hb => rightRows_any _ _ _ _ B W (Nat.le_trans hB hb.size) (ha.rows.keep (hb.mono hB)) (by have := na.rows.1; omega) (fun z hz => by have := na.rows.2 z hz; omega)
  have HC5 : Hid (∀ W, Below w.heap.size w W → Calls Tryz.prog 95 #[.slice h.iA f.items.length h.ic] W fun e w' => e = .returned (.bool (rightItemsF f.items)) ∧ Below W.heap.size W w') := fun W hb => rightItems_any _ _ _ _ B W (Nat.le_trans hB hb.size) (ha.items.keep (hb.mono hB)) (by have := na.items.1; omega) na.items.2
  have hkl := na.know.1
  generalize rightNewsF f = RS at *
  generalize Kn.rightM f.know = b1 at *
  generalize rightMembersF f.members = b2 at *
  generalize rightVecF f.certs = b3 at *
  generalize rightRowsF f.rows = b4 at *
  generalize rightItemsF f.items = b5 at *
  clear ha na hB
  unfold frmV
  obtain ⟨p1, p2, p3, p4, p5, p6, p7, p8, p9, p10, p11, p12⟩ := f
  simp only at HF HC1 HC2 HC3 HC4 HC5 hkl ⊢
  go_enter Tryz.func23, Tryz.ntmps23
  go_upto_region 1 with fail
  have HKB : Hid (Blk (w.alloc (.cells #[.int .i64 p1, .string p2, .string p3, .slice h.kA p4.length h.kc, .int .i64 p5, .slice h.mA p6.length h.mc, .slice h.cA p7.length h.cc, .slice h.rA p8.length h.rc, .slice h.zA p9.length h.zc, .slice h.iA p10.length h.ic, .bool p11, .slice h.fA p12.length h.fc] 45)) w.heap.size [.int .i64 p1, .string p2, .string p3, .slice h.kA p4.length h.kc, .int .i64 p5, .slice h.mA p6.length h.mc, .slice h.cA p7.length h.cc, .slice h.rA p8.length h.rc, .slice h.zA p9.length h.zc, .slice h.iA p10.length h.ic, .bool p11, .slice h.fA p12.length h.fc]) := Blk.new w [.int .i64 p1, .string p2, .string p3, .slice h.kA p4.length h.kc, .int .i64 p5, .slice h.mA p6.length h.mc, .slice h.cA p7.length h.cc, .slice h.rA p8.length h.rc, .slice h.zA p9.length h.zc, .slice h.iA p10.length h.ic, .bool p11, .slice h.fA p12.length h.fc] 45
  have HB : Hid (Below w.heap.size w (w.alloc (.cells #[.int .i64 p1, .string p2, .string p3, .slice h.kA p4.length h.kc, .int .i64 p5, .slice h.mA p6.length h.mc, .slice h.cA p7.length h.cc, .slice h.rA p8.length h.rc, .slice h.zA p9.length h.zc, .slice h.iA p10.length h.ic, .bool p11, .slice h.fA p12.length h.fc] 45))) := (Below.refl _ _).alloc (Nat.le_refl _) _
  generalize (w.alloc (.cells #[.int .i64 p1, .string p2, .string p3, .slice h.kA p4.length h.kc, .int .i64 p5, .slice h.mA p6.length h.mc, .slice h.cA p7.length h.cc, .slice h.rA p8.length h.rc, .slice h.zA p9.length h.zc, .slice h.iA p10.length h.ic, .bool p11, .slice h.fA p12.length h.fc] 45)) = W0 at *
  by_cases hp : p4.length ≤ 64
  rotate_left
  · skip
    have hi1 : (64 : Int) < (p4.length : Int) := by omega
    obtain ⟨k0, k1, k2, k3, k4, k5, k6, k7, k8, k9, k10, k11⟩ := HKB.out.cs
    go_wp2
    go_ret
    exact ⟨ret_bool (by rw [HF.out]; simp [hp]), HB.out⟩
  have hi1 : ¬ (64 : Int) < (p4.length : Int) := by omega
  rw [decide_eq_true hp] at HF
  obtain ⟨k0, k1, k2, k3, k4, k5, k6, k7, k8, k9, k10, k11⟩ := HKB.out.cs
  go_wp2_with fail
  clear k0 k1 k2 k3 k4 k5 k6 k7 k8 k9 k10 k11
  refine (HC1.out _ HB.out).mono ?_
  rintro e w1 ⟨rfl, hb⟩
  replace HKB := Lib.hid (HKB.out.below hb)
  replace HB := Lib.hid (HB.out.trans (hb.mono HB.out.size))
  clear hb HC1
  cases b1
  · skip
    obtain ⟨k0, k1, k2, k3, k4, k5, k6, k7, k8, k9, k10, k11⟩ := HKB.out.cs
    go_wp2
    go_ret
    exact ⟨ret_bool (by rw [HF.out]; simp), HB.out⟩
  by_cases hp : 0 ≤ p5
  rotate_left
  · skip
    have hi2 : p5 < 0 := by omega
    rw [decide_eq_false hp] at HF
    obtain ⟨k0, k1, k2, k3, k4, k5, k6, k7, k8, k9, k10, k11⟩ := HKB.out.cs
    go_wp2
    go_ret
    exact ⟨ret_bool (by rw [HF.out]; simp), HB.out⟩
  have hi2 : ¬ p5 < 0 := by omega
  rw [decide_eq_true hp] at HF
  by_cases hp : p5 ≤ 1048576
  rotate_left
  · skip
    have hi3 : 1048576 < p5 := by omega
    rw [decide_eq_false hp] at HF
    obtain ⟨k0, k1, k2, k3, k4, k5, k6, k7, k8, k9, k10, k11⟩ := HKB.out.cs
    go_wp2
    go_ret
    exact ⟨ret_bool (by rw [HF.out]; simp), HB.out⟩
  have hi3 : ¬ 1048576 < p5 := by omega
  rw [decide_eq_true hp] at HF
  obtain ⟨k0, k1, k2, k3, k4, k5, k6, k7, k8, k9, k10, k11⟩ := HKB.out.cs
  go_wp2_with fail
  clear k0 k1 k2 k3 k4 k5 k6 k7 k8 k9 k10 k11
  refine (HC2.out _ HB.out).mono ?_
  rintro e w1 ⟨rfl, hb⟩
  replace HKB := Lib.hid (HKB.out.below hb)
  replace HB := Lib.hid (HB.out.trans (hb.mono HB.out.size))
  clear hb HC2
  cases b2
  · skip
    obtain ⟨k0, k1, k2, k3, k4, k5, k6, k7, k8, k9, k10, k11⟩ := HKB.out.cs
    go_wp2
    go_ret
    exact ⟨ret_bool (by rw [HF.out]; simp), HB.out⟩
  obtain ⟨k0, k1, k2, k3, k4, k5, k6, k7, k8, k9, k10, k11⟩ := HKB.out.cs
  go_wp2_with fail
  clear k0 k1 k2 k3 k4 k5 k6 k7 k8 k9 k10 k11
  refine (HC3.out _ HB.out).mono ?_
  rintro e w1 ⟨rfl, hb⟩
  replace HKB := Lib.hid (HKB.out.below hb)
  replace HB := Lib.hid (HB.out.trans (hb.mono HB.out.size))
  clear hb HC3
  cases b3
  · skip
    obtain ⟨k0, k1, k2, k3, k4, k5, k6, k7, k8, k9, k10, k11⟩ := HKB.out.cs
    go_wp2
    go_ret
    exact ⟨ret_bool (by rw [HF.out]; simp), HB.out⟩
  obtain ⟨k0, k1, k2, k3, k4, k5, k6, k7, k8, k9, k10, k11⟩ := HKB.out.cs
  go_wp2_with fail
  clear k0 k1 k2 k3 k4 k5 k6 k7 k8 k9 k10 k11
  refine (HC4.out _ HB.out).mono ?_
  rintro e w1 ⟨rfl, hb⟩
  replace HKB := Lib.hid (HKB.out.below hb)
  replace HB := Lib.hid (HB.out.trans (hb.mono HB.out.size))
  clear hb HC4
  cases b4
  · skip
    obtain ⟨k0, k1, k2, k3, k4, k5, k6, k7, k8, k9, k10, k11⟩ := HKB.out.cs
    go_wp2
    go_ret
    exact ⟨ret_bool (by rw [HF.out]; simp), HB.out⟩
  obtain ⟨k0, k1, k2, k3, k4, k5, k6, k7, k8, k9, k10, k11⟩ := HKB.out.cs
  go_wp2_with fail
  clear k0 k1 k2 k3 k4 k5 k6 k7 k8 k9 k10 k11
  refine (HC5.out _ HB.out).mono ?_
  rintro e w1 ⟨rfl, hb⟩
  replace HKB := Lib.hid (HKB.out.below hb)
  replace HB := Lib.hid (HB.out.trans (hb.mono HB.out.size))
  clear hb HC5
  obtain ⟨k0, k1, k2, k3, k4, k5, k6, k7, k8, k9, k10, k11⟩ := HKB.out.cs
  go_wp2
  go_ret
  exact ⟨ret_bool (by rw [HF.out]; simp), HB.out⟩
def lieOf (h : Lie) : Lie := ⟨none, 0, none, 0, none, 0, none, 0, none, 0, none, 0, h.fA, h.fc⟩
theorem mat_nilK (w : World) (B : Nat) : Kn.MatAt w B none 0 [] := ⟨[], rfl, RowAt.nil, fun _ h => by simp at h⟩
theorem mat_nilM (w : World) (B : Nat) : Mx.MatAt w B none 0 [] := ⟨[], rfl, RowAt.nil, fun _ h => by simp at h⟩
theorem stale_at {w : World} {B : Nat} {f : Frm} {h : Lie} (k : FrmAt w B f h) : FrmAt w B (staleOf f) (lieOf h) :=
  ⟨mat_nilK w B, RowAt.nil, VecAt.nil _ _ _, mat_nilM w B, ⟨[], RowAt.nil, rfl, fun k z r h => by simp at h⟩, RowAt.nil, k.floor⟩
theorem stale_few {f : Frm} (k : FewF f) : FewF (staleOf f) :=
  ⟨⟨by simp [staleOf], fun z h => by simp [staleOf] at h⟩, by simp [staleOf], by simp [staleOf], ⟨by simp [staleOf], fun z h => by simp [staleOf] at h⟩, ⟨by simp [staleOf], fun z h => by simp [staleOf] at h⟩, ⟨by simp [staleOf], fun z h => by simp [staleOf] at h⟩, k.floor⟩
set_option maxRecDepth 100000 in
set_option maxHeartbeats 4000000 in
theorem right12_any (f : Frm) (h : Lie) (B : Nat) (w : World) (hB : B ≤ w.heap.size) (ha : FrmAt w B f h) (na : FewF f) :
    Calls Tryz.prog 10 #[frmV f h] w fun e w' => e = .returned (.bool (rightFrm f)) ∧ Below w.heap.size w w' := by
  have HF : Hid (rightFrm f = ((rightL f.src.data.toList && rightL f.dst.data.toList) &&
    (if f.kind = 1 then rightNewsF f && (Zo.rightZ f.zone && (stubsF f.items && (!f.whole && decide (f.floor.length = 0))))
     else if f.kind = 2 then rightNewsF f && (decide (f.zone.length = 0) && decide (f.floor.length = 0))
     else if f.kind = 3 then rightVecF f.floor && sameFrm f (staleOf f) else false))) := rfl
  have HC1 : Hid (∀ W, Below w.heap.size w W → Calls Tryz.prog 22 #[.string f.src] W fun e w' => e = .returned (.bool (rightL f.src.data.toList)) ∧ Below W.heap.size W w') := fun W _ => (right_any _ W).mono fun e w1 h => ⟨h.1, h.2 ▸ Below.refl _ _⟩
  have HC2 : Hid (∀ W, Below w.heap.size w W → Calls Tryz.prog 22 #[.string f.dst] W fun e w' => e = .returned (.bool (rightL f.dst.data.toList)) ∧ Below W.heap.size W w') := fun W _ => (right_any _ W).mono fun e w1 h => ⟨h.1, h.2 ▸ Below.refl _ _⟩
  have HC3 : Hid (∀ W, Below w.heap.size w W → Calls Tryz.prog 23 #[frmV f h] W fun e w' => e = .returned (.bool (rightNewsF f)) ∧ Below W.heap.size W w') := fun W hb => rightNews_any f h B W (Nat.le_trans hB hb.size) (ha.keep (hb.mono hB)) na
  have HC4 : Hid (∀ W, Below w.heap.size w W → Calls Tryz.prog 24 #[.slice h.zA f.zone.length h.zc] W fun e w' => e = .returned (.bool (Zo.rightZ f.zone)) ∧ Below W.heap.size W w') := fun W hb => by
    obtain ⟨zs, z1, z2⟩ := ha.zone
    exact Zo.rightZ_any _ _ _ zs _ B W (Nat.le_trans hB hb.size) (z1.keep (hb.mono hB)) z2
  have HC5 : Hid (∀ W, Below w.heap.size w W → Calls Tryz.prog 25 #[.slice h.iA f.items.length h.ic] W fun e w' => e = .returned (.bool (stubsF f.items)) ∧ Below W.heap.size W w') := fun W hb => stubs_any _ _ _ _ B W (Nat.le_trans hB hb.size) (ha.items.keep (hb.mono hB)) (by have := na.items.1; omega)
  have HC6 : Hid (∀ W, Below w.heap.size w W → Calls Tryz.prog 26 #[.slice h.fA f.floor.length h.fc] W fun e w' => e = .returned (.bool (rightVecF f.floor)) ∧ Below W.heap.size W w') := fun W hb => rightVec_any _ _ _ _ B W (Nat.le_trans hB hb.size) (ha.floor.keep (hb.mono hB)) (by have := na.floor; omega)
  have HC7 : Hid (∀ W, Below w.heap.size w W → Calls Tryz.prog 18 #[frmV f h, frmV (staleOf f) (lieOf h)] W fun e w' => e = .returned (.bool (sameFrm f (staleOf f))) ∧ Below W.heap.size W w') := fun W hb => same12_any f (staleOf f) h (lieOf h) B W (Nat.le_trans hB hb.size) (ha.keep (hb.mono hB)) (stale_at (ha.keep (hb.mono hB))) na (stale_few na)
  have hzl := na.zone.1
  have hfl := na.floor
  generalize rightFrm f = RS at *
  generalize rightL f.src.data.toList = b1 at *
  generalize rightL f.dst.data.toList = b2 at *
  generalize rightNewsF f = b3 at *
  generalize Zo.rightZ f.zone = b4 at *
  generalize stubsF f.items = b5 at *
  generalize rightVecF f.floor = b6 at *
  generalize sameFrm f (staleOf f) = b7 at *
  clear ha na hB
  unfold frmV staleOf lieOf at *
  obtain ⟨p1, p2, p3, p4, p5, p6, p7, p8, p9, p10, p11, p12⟩ := f
  simp only [List.length_nil] at HF HC1 HC2 HC3 HC4 HC5 HC6 HC7 hzl hfl ⊢
  go_enter Tryz.func10, Tryz.ntmps10
  go_upto_region 1 with fail
  have HKB : Hid (Blk (w.alloc (.cells #[.int .i64 p1, .string p2, .string p3, .slice h.kA p4.length h.kc, .int .i64 p5, .slice h.mA p6.length h.mc, .slice h.cA p7.length h.cc, .slice h.rA p8.length h.rc, .slice h.zA p9.length h.zc, .slice h.iA p10.length h.ic, .bool p11, .slice h.fA p12.length h.fc] 45)) w.heap.size [.int .i64 p1, .string p2, .string p3, .slice h.kA p4.length h.kc, .int .i64 p5, .slice h.mA p6.length h.mc, .slice h.cA p7.length h.cc, .slice h.rA p8.length h.rc, .slice h.zA p9.length h.zc, .slice h.iA p10.length h.ic, .bool p11, .slice h.fA p12.length h.fc]) := Blk.new w [.int .i64 p1, .string p2, .string p3, .slice h.kA p4.length h.kc, .int .i64 p5, .slice h.mA p6.length h.mc, .slice h.cA p7.length h.cc, .slice h.rA p8.length h.rc, .slice h.zA p9.length h.zc, .slice h.iA p10.length h.ic, .bool p11, .slice h.fA p12.length h.fc] 45
  have HB : Hid (Below w.heap.size w (w.alloc (.cells #[.int .i64 p1, .string p2, .string p3, .slice h.kA p4.length h.kc, .int .i64 p5, .slice h.mA p6.length h.mc, .slice h.cA p7.length h.cc, .slice h.rA p8.length h.rc, .slice h.zA p9.length h.zc, .slice h.iA p10.length h.ic, .bool p11, .slice h.fA p12.length h.fc] 45))) := (Below.refl _ _).alloc (Nat.le_refl _) _
  generalize (w.alloc (.cells #[.int .i64 p1, .string p2, .string p3, .slice h.kA p4.length h.kc, .int .i64 p5, .slice h.mA p6.length h.mc, .slice h.cA p7.length h.cc, .slice h.rA p8.length h.rc, .slice h.zA p9.length h.zc, .slice h.iA p10.length h.ic, .bool p11, .slice h.fA p12.length h.fc] 45)) = W0 at *
  obtain ⟨k0, k1, k2, k3, k4, k5, k6, k7, k8, k9, k10, k11⟩ := HKB.out.cs
  go_wp2_with fail
  clear k0 k1 k2 k3 k4 k5 k6 k7 k8 k9 k10 k11
  refine (HC1.out _ HB.out).mono ?_
  rintro e w1 ⟨rfl, hb⟩
  replace HKB := Lib.hid (HKB.out.below hb)
  replace HB := Lib.hid (HB.out.trans (hb.mono HB.out.size))
  clear hb HC1
  cases b1
  · skip
    obtain ⟨k0, k1, k2, k3, k4, k5, k6, k7, k8, k9, k10, k11⟩ := HKB.out.cs
    go_wp2
    go_ret
    exact ⟨ret_bool (by rw [HF.out]; simp), HB.out⟩
  obtain ⟨k0, k1, k2, k3, k4, k5, k6, k7, k8, k9, k10, k11⟩ := HKB.out.cs
  go_wp2_with fail
  clear k0 k1 k2 k3 k4 k5 k6 k7 k8 k9 k10 k11
  refine (HC2.out _ HB.out).mono ?_
  rintro e w1 ⟨rfl, hb⟩
  replace HKB := Lib.hid (HKB.out.below hb)
  replace HB := Lib.hid (HB.out.trans (hb.mono HB.out.size))
  clear hb HC2
  cases b2
  · skip
    obtain ⟨k0, k1, k2, k3, k4, k5, k6, k7, k8, k9, k10, k11⟩ := HKB.out.cs
    go_wp2
    go_ret
    exact ⟨ret_bool (by rw [HF.out]; simp), HB.out⟩
  by_cases hk1 : p1 = 1
  · subst hk1
    obtain ⟨k0, k1, k2, k3, k4, k5, k6, k7, k8, k9, k10, k11⟩ := HKB.out.cs
    go_wp2_with fail
    clear k0 k1 k2 k3 k4 k5 k6 k7 k8 k9 k10 k11
    refine (HC3.out _ HB.out).mono ?_
    rintro e w1 ⟨rfl, hb⟩
    replace HKB := Lib.hid (HKB.out.below hb)
    replace HB := Lib.hid (HB.out.trans (hb.mono HB.out.size))
    clear hb HC3
    cases b3
    · skip
      obtain ⟨k0, k1, k2, k3, k4, k5, k6, k7, k8, k9, k10, k11⟩ := HKB.out.cs
      go_wp2
      go_ret
      exact ⟨ret_bool (by rw [HF.out]; simp), HB.out⟩
    obtain ⟨k0, k1, k2, k3, k4, k5, k6, k7, k8, k9, k10, k11⟩ := HKB.out.cs
    go_wp2_with fail
    clear k0 k1 k2 k3 k4 k5 k6 k7 k8 k9 k10 k11
    refine (HC4.out _ HB.out).mono ?_
    rintro e w1 ⟨rfl, hb⟩
    replace HKB := Lib.hid (HKB.out.below hb)
    replace HB := Lib.hid (HB.out.trans (hb.mono HB.out.size))
    clear hb HC4
    cases b4
    · skip
      obtain ⟨k0, k1, k2, k3, k4, k5, k6, k7, k8, k9, k10, k11⟩ := HKB.out.cs
      go_wp2
      go_ret
      exact ⟨ret_bool (by rw [HF.out]; simp), HB.out⟩
    obtain ⟨k0, k1, k2, k3, k4, k5, k6, k7, k8, k9, k10, k11⟩ := HKB.out.cs
    go_wp2_with fail
    clear k0 k1 k2 k3 k4 k5 k6 k7 k8 k9 k10 k11
    refine (HC5.out _ HB.out).mono ?_
    rintro e w1 ⟨rfl, hb⟩
    replace HKB := Lib.hid (HKB.out.below hb)
    replace HB := Lib.hid (HB.out.trans (hb.mono HB.out.size))
    clear hb HC5
    cases b5
    · skip
      obtain ⟨k0, k1, k2, k3, k4, k5, k6, k7, k8, k9, k10, k11⟩ := HKB.out.cs
      go_wp2
      go_ret
      exact ⟨ret_bool (by rw [HF.out]; simp), HB.out⟩
    cases p11
    rotate_left
    · skip
      obtain ⟨k0, k1, k2, k3, k4, k5, k6, k7, k8, k9, k10, k11⟩ := HKB.out.cs
      go_wp2
      go_ret
      exact ⟨ret_bool (by rw [HF.out]; simp), HB.out⟩
    by_cases hp : p12.length = 0
    rotate_left
    · skip
      have hi1 : ((p12.length : Int) == 0) = false := by rw [beq_eq_false_iff_ne]; omega
      obtain ⟨k0, k1, k2, k3, k4, k5, k6, k7, k8, k9, k10, k11⟩ := HKB.out.cs
      go_wp2
      go_ret
      exact ⟨ret_bool (by rw [HF.out]; simp [hp]), HB.out⟩
    have hi1 : ((p12.length : Int) == 0) = true := by rw [hp]; rfl
    rw [decide_eq_true hp] at HF
    obtain ⟨k0, k1, k2, k3, k4, k5, k6, k7, k8, k9, k10, k11⟩ := HKB.out.cs
    go_wp2
    go_ret
    exact ⟨ret_bool (by rw [HF.out]; simp), HB.out⟩
  by_cases hk2 : p1 = 2
  · subst hk2
    obtain ⟨k0, k1, k2, k3, k4, k5, k6, k7, k8, k9, k10, k11⟩ := HKB.out.cs
    go_wp2_with fail
    clear k0 k1 k2 k3 k4 k5 k6 k7 k8 k9 k10 k11
    refine (HC3.out _ HB.out).mono ?_
    rintro e w1 ⟨rfl, hb⟩
    replace HKB := Lib.hid (HKB.out.below hb)
    replace HB := Lib.hid (HB.out.trans (hb.mono HB.out.size))
    clear hb HC3
    cases b3
    · skip
      obtain ⟨k0, k1, k2, k3, k4, k5, k6, k7, k8, k9, k10, k11⟩ := HKB.out.cs
      go_wp2
      go_ret
      exact ⟨ret_bool (by rw [HF.out]; simp), HB.out⟩
    by_cases hp : p9.length = 0
    rotate_left
    · skip
      have hi2 : ((p9.length : Int) == 0) = false := by rw [beq_eq_false_iff_ne]; omega
      obtain ⟨k0, k1, k2, k3, k4, k5, k6, k7, k8, k9, k10, k11⟩ := HKB.out.cs
      go_wp2
      go_ret
      exact ⟨ret_bool (by rw [HF.out]; simp [hp]), HB.out⟩
    have hi2 : ((p9.length : Int) == 0) = true := by rw [hp]; rfl
    rw [decide_eq_true hp] at HF
    by_cases hp : p12.length = 0
    rotate_left
    · skip
      have hi1 : ((p12.length : Int) == 0) = false := by rw [beq_eq_false_iff_ne]; omega
      obtain ⟨k0, k1, k2, k3, k4, k5, k6, k7, k8, k9, k10, k11⟩ := HKB.out.cs
      go_wp2
      go_ret
      exact ⟨ret_bool (by rw [HF.out]; simp [hp]), HB.out⟩
    have hi1 : ((p12.length : Int) == 0) = true := by rw [hp]; rfl
    rw [decide_eq_true hp] at HF
    obtain ⟨k0, k1, k2, k3, k4, k5, k6, k7, k8, k9, k10, k11⟩ := HKB.out.cs
    go_wp2
    go_ret
    exact ⟨ret_bool (by rw [HF.out]; simp), HB.out⟩
  by_cases hk3 : p1 = 3
  · subst hk3
    obtain ⟨k0, k1, k2, k3, k4, k5, k6, k7, k8, k9, k10, k11⟩ := HKB.out.cs
    go_wp2_with fail
    clear k0 k1 k2 k3 k4 k5 k6 k7 k8 k9 k10 k11
    refine (HC6.out _ HB.out).mono ?_
    rintro e w1 ⟨rfl, hb⟩
    replace HKB := Lib.hid (HKB.out.below hb)
    replace HB := Lib.hid (HB.out.trans (hb.mono HB.out.size))
    clear hb HC6
    cases b6
    · skip
      obtain ⟨k0, k1, k2, k3, k4, k5, k6, k7, k8, k9, k10, k11⟩ := HKB.out.cs
      go_wp2
      go_ret
      exact ⟨ret_bool (by rw [HF.out]; simp), HB.out⟩
    obtain ⟨k0, k1, k2, k3, k4, k5, k6, k7, k8, k9, k10, k11⟩ := HKB.out.cs
    go_wp2_with fail
    clear k0 k1 k2 k3 k4 k5 k6 k7 k8 k9 k10 k11
    refine (HC7.out _ HB.out).mono ?_
    rintro e w1 ⟨rfl, hb⟩
    replace HKB := Lib.hid (HKB.out.below hb)
    replace HB := Lib.hid (HB.out.trans (hb.mono HB.out.size))
    clear hb HC7
    obtain ⟨k0, k1, k2, k3, k4, k5, k6, k7, k8, k9, k10, k11⟩ := HKB.out.cs
    go_wp2
    go_ret
    exact ⟨ret_bool (by rw [HF.out]; simp), HB.out⟩
  have hn1 : (p1 == 1) = false := by rw [beq_eq_false_iff_ne]; exact hk1
  have hn2 : (p1 == 2) = false := by rw [beq_eq_false_iff_ne]; exact hk2
  have hn3 : (p1 == 3) = false := by rw [beq_eq_false_iff_ne]; exact hk3
  obtain ⟨k0, k1, k2, k3, k4, k5, k6, k7, k8, k9, k10, k11⟩ := HKB.out.cs
  go_wp2
  go_ret
  exact ⟨ret_bool (by rw [HF.out]; simp [hk1, hk2, hk3]), HB.out⟩
end Go.Proofs.YtbookbgfipbaoaaGreatDoor

/- zone.Everywhere; the law's own little check 'told'. -/
namespace Go.Proofs.YtbookbgfipbaoaaGreatDoor.Zo
open Go.RowKit

end Go.Proofs.YtbookbgfipbaoaaGreatDoor.Zo

/- Texts of zones come back: a number's digits, what stands between the bytes of a kind, words, steps. Mathematics; no program in it. -/
namespace Go.Proofs.YtbookbgfipbaoaaGreatDoor.Zo
open Go.RowKit

theorem decDigits_le : ∀ (k u : Nat), u < 10 ^ (k + 1) → (Lib.decDigits u).length ≤ k + 1 := by
  intro k
  induction k with
  | zero =>
    intro u h
    rw [Lib.decDigits_one (by simpa using h)]
    simp
  | succ k ih =>
    intro u h
    by_cases h1 : u < 10
    · rw [Lib.decDigits_one h1]; simp
    · rw [Lib.decDigits, dif_neg h1, List.length_append, List.length_singleton]
      have h2 : u / 10 < 10 ^ (k + 1) := by
        have e : 10 ^ (k + 1 + 1) = 10 ^ (k + 1) * 10 := Nat.pow_succ ..
        omega
      have := ih _ h2
      omega
theorem itoaB_list (n : Int) : (itoaB n).data.toList = Lib.itoa n := rfl
def ofL (l : List UInt8) : ByteArray := ⟨l.toArray⟩
theorem ofL_list (s : ByteArray) : ofL s.data.toList = s := rfl
theorem fits_ops {r : RSt} (h : fitsR r = true) : (1 ≤ r.op ∧ r.op ≤ 6) ∧ r.x.natAbs < 10 ^ 8 ∧ r.y.natAbs < 10 ^ 8 ∧ r.sz.natAbs < 10 ^ 8 ∧ (¬ (r.op = 2 ∨ r.op = 3) → r.x = 0 ∧ r.y = 0 ∧ r.sz = 0) := by
  unfold fitsR at h
  split at h
  · rw [Bool.and_eq_true, whole_iff, within_iff] at h
    omega
  · split at h
    · rw [Bool.and_eq_true, whole_iff, within_iff] at h
      omega
    · split at h
      · simp only [Bool.and_eq_true, decide_eq_true_eq] at h
        omega
      · cases h
end Go.Proofs.YtbookbgfipbaoaaGreatDoor.Zo
