/- The document's Right of a Frame. -/
import Derived.Test.YtbookbgfipbaoaaGreatDoorH21
import Derived.Test.YtbookbgfipbaoaaGreatDoorH22
import Derived.Test.YtbookbgfipbaoaaGreatDoorH24
namespace Go.Proofs.YtbookbgfipbaoaaGreatDoor
open Go.RowKit

/-- No text is longer than memory allows. -/
structure RShort (f : Frm) : Prop where
  know : Kn.ShortM f.know
  members : ∀ x ∈ f.members, x.size ≤ 9223372036854775807
  certs : Short f.certs
  rows : Mx.ShortM f.rows
  floor : Short f.floor
set_option maxRecDepth 100000 in
set_option maxHeartbeats 1000000 in
theorem rvec12_any (A : Option Addr) (n c : Nat) (zs : List At) (B : Nat) (w : World) (hz : VecAt w B A n zs) (hn : n ≤ 1000000) (hs : Short zs) :
    Calls Tryz.prog 36 #[.slice A n c] w fun e w' => e = .returned (.bool (rightVecF zs)) ∧ Below w.heap.size w w' := by
  have hl : zs.length = n := hz.1
  have HF := Lib.hid (show rightVecF zs = (decide (zs.length ≤ 64) && rightV zs) from rfl)
  have HC := Lib.hid (rrightv_any A n c zs B w hz (by omega) hs)
  clear hz hs
  rw [hl] at HF
  clear hl
  by_cases h : n ≤ 64
  · rw [decide_eq_true h] at HF
    have h1 : (n : Int) ≤ 64 := by omega
    go_enter Tryz.func36, Tryz.ntmps36
    go_wp2_with fail
    refine HC.out.mono ?_
    rintro e w1 ⟨rfl, hb⟩
    have HB : Hid (Below w.heap.size w w1) := drawn_below hb.out _
    clear hb
    go_wp2
    go_ret
    exact ⟨ret_bool (by rw [HF.out]; rfl), HB.out⟩
  · rw [decide_eq_false h] at HF
    have h1 : ¬ (n : Int) ≤ 64 := by omega
    have h1' : decide ((n : Int) ≤ 64) = false := decide_eq_false h1
    go_enter Tryz.func36, Tryz.ntmps36
    go_wp2
    go_ret
    exact ⟨ret_bool (by rw [HF.out]; rfl), Below.refl _ _⟩
def okItem (k : Int) (x : By.Itm) : Bool := By.rightI x && (decide (k ≠ 1) || (!x.dead && !x.held))
def listsF (f : Frm) : Bool := decide (f.know.length ≤ 64) && (Kn.rightM f.know && (decide (0 ≤ f.clock) && (decide (f.clock ≤ 1048576) && (decide (f.members.length ≤ 64) && (rightVecF f.certs && (decide (f.rows.length ≤ 64) && (Mx.rightM f.rows && (decide (f.items.length ≤ 32) && (decide (f.floor.length = 0) && (rmF none f.members && ((f.rows.all fun x => decide (x.2.length ≤ 64)) && f.items.all (okItem f.kind))))))))))))
set_option maxRecDepth 100000 in
set_option maxHeartbeats 8000000 in
theorem lists12_any (f : Frm) (h : Lie) (B : Nat) (w : World) (hB : B ≤ w.heap.size) (ha : RFrmAt w B f h) (na : FewF f) (ns : RShort f) :
    Calls Tryz.prog 34 #[frmV f h] w fun e w' => e = .returned (.bool (listsF f)) ∧ Below w.heap.size w w' := by
  have HC1 : Hid (∀ W, Below w.heap.size w W → Calls Tryz.prog 102 #[.slice h.kA f.know.length h.kc] W fun e w' => e = .returned (.bool (Kn.rightM f.know)) ∧ Below W.heap.size W w') := fun W hb => Kn.rrightM_any _ _ _ _ B W (Nat.le_trans hB hb.size) (ha.know.keep (hb.mono hB)) (by have := na.know.1; omega) (fun z hz => by have := na.know.2 z hz; omega) ns.know
  have HC2 : Hid (∀ W, Below w.heap.size w W → Calls Tryz.prog 36 #[.slice h.cA f.certs.length h.cc] W fun e w' => e = .returned (.bool (rightVecF f.certs)) ∧ Below W.heap.size W w') := fun W hb => rvec12_any _ _ _ _ B W (ha.certs.keep (hb.mono hB)) (by have := na.certs; omega) ns.certs
  have HC3 : Hid (∀ W, Below w.heap.size w W → Calls Tryz.prog 103 #[.slice h.rA f.rows.length h.rc] W fun e w' => e = .returned (.bool (Mx.rightM f.rows)) ∧ Below W.heap.size W w') := fun W hb => Mx.rrightM_any _ _ _ _ B W (Nat.le_trans hB hb.size) (ha.rows.keep (hb.mono hB)) (by have := na.rows.1; omega) (fun z hz => by have := na.rows.2 z hz; omega) ns.rows
  have HMB : Hid (∀ W, Below w.heap.size w W → RowAt cellsT 1 W B h.mA f.members.length f.members) := fun W hb => ha.members.keep (hb.mono hB)
  have HRW : Hid (∀ W, Below w.heap.size w W → Mx.MatAt W B h.rA f.rows.length f.rows) := fun W hb => ha.rows.keep (hb.mono hB)
  have HIT : Hid (∀ W, Below w.heap.size w W → RowAt By.cellsI 9 W B h.iA f.items.length f.items) := fun W hb => ha.items.keep (hb.mono hB)
  have HSH := Lib.hid ns.members
  have hl1 := na.know.1
  have hl2 := na.members
  have hl3 := na.rows.1
  have hl4 := na.items.1
  have hl5 := na.floor
  have hl6 := fun z hz => na.rows.2 z hz
  have HL6 := Lib.hid hl6
  have HF : Hid (listsF f = (decide (f.know.length ≤ 64) && (Kn.rightM f.know && (decide (0 ≤ f.clock) && (decide (f.clock ≤ 1048576) && (decide (f.members.length ≤ 64) && (rightVecF f.certs && (decide (f.rows.length ≤ 64) && (Mx.rightM f.rows && (decide (f.items.length ≤ 32) && (decide (f.floor.length = 0) && (rmF none f.members && ((f.rows.all fun x => decide (x.2.length ≤ 64)) && f.items.all (okItem f.kind)))))))))))))) := rfl
  generalize listsF f = RS at *
  generalize Kn.rightM f.know = b1 at *
  generalize rightVecF f.certs = b2 at *
  generalize Mx.rightM f.rows = b3 at *
  clear ha na ns hl6
  unfold frmV
  obtain ⟨p1, p2, p3, p4, p5, p6, p7, p8, p9, p10, p11, p12⟩ := f
  simp only at HF HC1 HC2 HC3 HMB HRW HIT HSH hl1 hl2 hl3 hl4 hl5 HL6 ⊢
  go_enter Tryz.func34, Tryz.ntmps34
  go_upto_region 1 with fail
  have HKB : Hid (Blk (w.alloc (.cells #[.int .i64 p1, .string p2, .string p3, .slice h.kA p4.length h.kc, .int .i64 p5, .slice h.mA p6.length h.mc, .slice h.cA p7.length h.cc, .slice h.rA p8.length h.rc, .slice h.zA p9.length h.zc, .slice h.iA p10.length h.ic, .bool p11, .slice h.fA p12.length h.fc] 29)) w.heap.size [.int .i64 p1, .string p2, .string p3, .slice h.kA p4.length h.kc, .int .i64 p5, .slice h.mA p6.length h.mc, .slice h.cA p7.length h.cc, .slice h.rA p8.length h.rc, .slice h.zA p9.length h.zc, .slice h.iA p10.length h.ic, .bool p11, .slice h.fA p12.length h.fc]) := Blk.new w [.int .i64 p1, .string p2, .string p3, .slice h.kA p4.length h.kc, .int .i64 p5, .slice h.mA p6.length h.mc, .slice h.cA p7.length h.cc, .slice h.rA p8.length h.rc, .slice h.zA p9.length h.zc, .slice h.iA p10.length h.ic, .bool p11, .slice h.fA p12.length h.fc] 29
  have HB : Hid (Below w.heap.size w (w.alloc (.cells #[.int .i64 p1, .string p2, .string p3, .slice h.kA p4.length h.kc, .int .i64 p5, .slice h.mA p6.length h.mc, .slice h.cA p7.length h.cc, .slice h.rA p8.length h.rc, .slice h.zA p9.length h.zc, .slice h.iA p10.length h.ic, .bool p11, .slice h.fA p12.length h.fc] 29))) := (Below.refl _ _).alloc (Nat.le_refl _) _
  generalize (w.alloc (.cells #[.int .i64 p1, .string p2, .string p3, .slice h.kA p4.length h.kc, .int .i64 p5, .slice h.mA p6.length h.mc, .slice h.cA p7.length h.cc, .slice h.rA p8.length h.rc, .slice h.zA p9.length h.zc, .slice h.iA p10.length h.ic, .bool p11, .slice h.fA p12.length h.fc] 29)) = W0 at *
  by_cases hp : p4.length ≤ 64
  rotate_left
  · skip
    have hi : (64 : Int) < (p4.length : Int) := by omega
    rw [decide_eq_false hp] at HF
    obtain ⟨k0, k1, k2, k3, k4, k5, k6, k7, k8, k9, k10, k11⟩ := HKB.out.cs
    go_wp2
    go_ret
    exact ⟨ret_bool (by rw [HF.out]; simp), HB.out⟩
  have hi1 : ¬ (64 : Int) < (p4.length : Int) := by omega
  rw [decide_eq_true hp] at HF
  clear hp
  obtain ⟨k0, k1, k2, k3, k4, k5, k6, k7, k8, k9, k10, k11⟩ := HKB.out.cs
  go_wp2_with fail
  clear k0 k1 k2 k3 k4 k5 k6 k7 k8 k9 k10 k11
  refine (HC1.out _ HB.out).mono ?_
  rintro e w1 ⟨rfl, hb⟩
  replace HKB := Lib.hid (HKB.out.below hb)
  replace HB := Lib.hid (HB.out.trans (hb.mono HB.out.size))
  clear hb HC1
  cases b1
  · skip
    obtain ⟨k0, k1, k2, k3, k4, k5, k6, k7, k8, k9, k10, k11⟩ := HKB.out.cs
    go_wp2
    go_ret
    exact ⟨ret_bool (by rw [HF.out]; simp), HB.out⟩
  by_cases hp : 0 ≤ p5
  rotate_left
  · skip
    have hi : p5 < 0 := by omega
    rw [decide_eq_false hp] at HF
    obtain ⟨k0, k1, k2, k3, k4, k5, k6, k7, k8, k9, k10, k11⟩ := HKB.out.cs
    go_wp2
    go_ret
    exact ⟨ret_bool (by rw [HF.out]; simp), HB.out⟩
  have hi2 : ¬ p5 < 0 := by omega
  rw [decide_eq_true hp] at HF
  clear hp
  by_cases hp : p5 ≤ 1048576
  rotate_left
  · skip
    have hi : 1048576 < p5 := by omega
    rw [decide_eq_false hp] at HF
    obtain ⟨k0, k1, k2, k3, k4, k5, k6, k7, k8, k9, k10, k11⟩ := HKB.out.cs
    go_wp2
    go_ret
    exact ⟨ret_bool (by rw [HF.out]; simp), HB.out⟩
  have hi3 : ¬ 1048576 < p5 := by omega
  rw [decide_eq_true hp] at HF
  clear hp
  by_cases hp : p6.length ≤ 64
  rotate_left
  · skip
    have hi : (64 : Int) < (p6.length : Int) := by omega
    rw [decide_eq_false hp] at HF
    obtain ⟨k0, k1, k2, k3, k4, k5, k6, k7, k8, k9, k10, k11⟩ := HKB.out.cs
    go_wp2
    go_ret
    exact ⟨ret_bool (by rw [HF.out]; simp), HB.out⟩
  have hi4 : ¬ (64 : Int) < (p6.length : Int) := by omega
  rw [decide_eq_true hp] at HF
  clear hp
  obtain ⟨k0, k1, k2, k3, k4, k5, k6, k7, k8, k9, k10, k11⟩ := HKB.out.cs
  go_wp2_with fail
  clear k0 k1 k2 k3 k4 k5 k6 k7 k8 k9 k10 k11
  refine (HC2.out _ HB.out).mono ?_
  rintro e w1 ⟨rfl, hb⟩
  replace HKB := Lib.hid (HKB.out.below hb)
  replace HB := Lib.hid (HB.out.trans (hb.mono HB.out.size))
  clear hb HC2
  cases b2
  · skip
    obtain ⟨k0, k1, k2, k3, k4, k5, k6, k7, k8, k9, k10, k11⟩ := HKB.out.cs
    go_wp2
    go_ret
    exact ⟨ret_bool (by rw [HF.out]; simp), HB.out⟩
  by_cases hp : p8.length ≤ 64
  rotate_left
  · skip
    have hi : (64 : Int) < (p8.length : Int) := by omega
    rw [decide_eq_false hp] at HF
    obtain ⟨k0, k1, k2, k3, k4, k5, k6, k7, k8, k9, k10, k11⟩ := HKB.out.cs
    go_wp2
    go_ret
    exact ⟨ret_bool (by rw [HF.out]; simp), HB.out⟩
  have hi5 : ¬ (64 : Int) < (p8.length : Int) := by omega
  rw [decide_eq_true hp] at HF
  clear hp
  obtain ⟨k0, k1, k2, k3, k4, k5, k6, k7, k8, k9, k10, k11⟩ := HKB.out.cs
  go_wp2_with fail
  clear k0 k1 k2 k3 k4 k5 k6 k7 k8 k9 k10 k11
  refine (HC3.out _ HB.out).mono ?_
  rintro e w1 ⟨rfl, hb⟩
  replace HKB := Lib.hid (HKB.out.below hb)
  replace HB := Lib.hid (HB.out.trans (hb.mono HB.out.size))
  clear hb HC3
  cases b3
  · skip
    obtain ⟨k0, k1, k2, k3, k4, k5, k6, k7, k8, k9, k10, k11⟩ := HKB.out.cs
    go_wp2
    go_ret
    exact ⟨ret_bool (by rw [HF.out]; simp), HB.out⟩
  by_cases hp : p10.length ≤ 32
  rotate_left
  · skip
    have hi : (32 : Int) < (p10.length : Int) := by omega
    rw [decide_eq_false hp] at HF
    obtain ⟨k0, k1, k2, k3, k4, k5, k6, k7, k8, k9, k10, k11⟩ := HKB.out.cs
    go_wp2
    go_ret
    exact ⟨ret_bool (by rw [HF.out]; simp), HB.out⟩
  have hi6 : ¬ (32 : Int) < (p10.length : Int) := by omega
  rw [decide_eq_true hp] at HF
  clear hp
  by_cases hp : p12.length = 0
  rotate_left
  · skip
    have hi : (0 : Int) < (p12.length : Int) := by omega
    rw [decide_eq_false hp] at HF
    obtain ⟨k0, k1, k2, k3, k4, k5, k6, k7, k8, k9, k10, k11⟩ := HKB.out.cs
    go_wp2
    go_ret
    exact ⟨ret_bool (by rw [HF.out]; simp), HB.out⟩
  have hi7 : ¬ (0 : Int) < (p12.length : Int) := by omega
  rw [decide_eq_true hp] at HF
  clear hp
  simp only [Bool.true_and] at HF
  have HM : Hid (rmF none p6 = rmF (prevT p6 0) (p6.drop 0)) := rfl
  generalize hq1 : p8.all (fun x => decide (x.2.length ≤ 64)) = q1 at *
  generalize hq2 : p10.all (okItem p1) = q2 at *
  have HQ1 := Lib.hid hq1
  have HQ2 := Lib.hid hq2
  clear hq1 hq2
  rw [HM.out] at HF
  obtain ⟨k0, k1, k2, k3, k4, k5, k6, k7, k8, k9, k10, k11⟩ := HKB.out.cs
  go_wp2
  clear k0 k1 k2 k3 k4 k5 k6 k7 k8 k9 k10 k11
  go_loopw [3] (fun i wr => ∃ k : Nat, k ≤ p6.length ∧ i = .int .i64 k ∧ Hid (RS = (rmF (prevT p6 k) (p6.drop k) && (q1 && q2))) ∧ Hid (Below w.heap.size w wr) ∧ Hid (Blk wr w.heap.size [.int .i64 p1, .string p2, .string p3, .slice h.kA p4.length h.kc, .int .i64 p5, .slice h.mA p6.length h.mc, .slice h.cA p7.length h.cc, .slice h.rA p8.length h.rc, .slice h.zA p9.length h.zc, .slice h.iA p10.length h.ic, .bool p11, .slice h.fA p12.length h.fc])) (fun i _ => p6.length - (intOf i).toNat)
  case atStart => exact ⟨0, by omega, rfl, HF, HB, HKB⟩
  case round =>
    clear HF HB HKB
    obtain ⟨k, hk, rfl, HF, HB, HKB⟩ := hrel
    by_cases hlt : k < p6.length
    · skip
      obtain ⟨blk, off, x, hmA, hbB, hmk, e0⟩ := (HMB.out wr HB.out).text (Below.refl _ _) hlt
      have hi1 : (k : Int) < (p6.length : Int) := by omega
      have hst := rm_step hmk
      rw [hst] at HF
      have hPw := HKB.out.z
      have hxs := HSH.out x (List.mem_of_getElem? hmk)
      have k5 := HKB.out.c 5 _ rfl
      rw [hmA] at k5
      have HRX : Hid (∀ W, Calls Tryz.prog 33 #[.string x] W fun e w' => e = .returned (.bool (rightL x.data.toList)) ∧ Below W.heap.size W w') := fun W => (rright_any x W).mono fun e w1 h => ⟨h.1, h.2 ▸ Below.refl _ _⟩
      clear hst hmk
      have hbl : blk < wr.heap.size := by have := HB.out.size; omega
      cases hr : rightL x.data.toList
      · rw [hr] at HF HRX
        clear hr hmA
        go_upto_region 6 with fail
        refine wp_region_held_drew (S := fun w' => w'.cell? ⟨w.heap.size, 5, none⟩ = some (.slice (some ⟨blk, off, none⟩) p6.length h.mc) ∧ w'.cell? ⟨blk, off + k, none⟩ = some (.string x)) (by kernel_rfl) ⟨k5, e0⟩ (fun hHeld => ?_)
        refine tk 0 ?_
        refine tk 1 ?_
        refine tk 2 ?_
        refine tk 3 ?_
        refine tk 4 ?_
        refine wpAnyH_ready (rs := [5]) (by kernel_rfl) (by simp) ?_
        refine ac (fun K hK => ?_) AllReadyH.nil
        go_simp
        go_at_call 33
        refine (HRX.out _).mono ?_
        rintro e u1 ⟨rfl, hb⟩
        replace hb := Kn.below_via (Below.refl wr.heap.size wr) hb (Nat.le_refl _) ⟨rfl, rfl, rfl, rfl⟩
        replace k5 := (hb.cell (p := ⟨w.heap.size, 5, none⟩) hPw).trans k5
        replace e0 := (hb.cell (p := ⟨blk, off + k, none⟩) hbl).trans e0
        replace hbl := Nat.lt_of_lt_of_le hbl hb.size
        replace HKB := Lib.hid (HKB.out.below hb)
        replace HB := Lib.hid (HB.out.trans (hb.mono HB.out.size))
        replace hPw := Nat.lt_of_lt_of_le hPw hb.size
        clear hb
        refine hK.out _ _ ⟨k5, e0⟩ (fun hHeld => ?_)
        clear hK K
        try simp only [Act.put, List.setIfInBounds_toArray, List.set_cons_zero, List.set_cons_succ]
        refine tk 6 ?_
        refine tk 7 ?_
        refine wpAnyH_take (i := 8) (oi := { dst := some 77, op := Go.Op.move (Go.Operand.tmp 3), type := 3, pos := "ref.go:41", after := #[{ on := 7, ground := Go.Ground.guard }], guard := some (7, false) }) (v := undef) rfl (by kernel_rfl) (by kernel_rfl) (by kernel_rfl) (fun _ _ _ h => h) (Or.inr ⟨rfl, rfl⟩) (by assumption) ?_
        try simp only [Act.put, List.setIfInBounds_toArray, List.set_cons_zero, List.set_cons_succ]
        refine wpAnyH_take (i := 9) (oi := { dst := some 78, op := Go.Op.binOp Go.BinOp.gtr 3 (Go.Operand.tmp 77) (Go.Operand.const (Go.Value.int Go.IntKind.i64 0)) 3, type := 4, pos := "ref.go:41", after := #[{ on := 8, ground := Go.Ground.data }, { on := 7, ground := Go.Ground.guard }], guard := some (7, false) }) (v := undef) rfl (by kernel_rfl) (by kernel_rfl) (by kernel_rfl) (fun _ _ _ h => h) (Or.inr ⟨rfl, rfl⟩) (by assumption) ?_
        try simp only [Act.put, List.setIfInBounds_toArray, List.set_cons_zero, List.set_cons_succ]
        refine wpAnyH_take (i := 10) (oi := { dst := some 79, op := Go.Op.move (Go.Operand.tmp 78), type := 4, pos := "ref.go:41", after := #[{ on := 9, ground := Go.Ground.data }, { on := 7, ground := Go.Ground.chain }, { on := 7, ground := Go.Ground.guard }], guard := some (7, false) }) (v := undef) rfl (by kernel_rfl) (by kernel_rfl) (by kernel_rfl) (fun _ _ _ h => h) (Or.inr ⟨rfl, rfl⟩) (by assumption) ?_
        try simp only [Act.put, List.setIfInBounds_toArray, List.set_cons_zero, List.set_cons_succ]
        refine wpAnyH_take (i := 11) (oi := { dst := some 80, op := Go.Op.fieldAddr 29 (Go.Operand.tmp 1) 5, type := 0, pos := "ref.go:41", after := #[{ on := 10, ground := Go.Ground.guard }], guard := some (10, true) }) (v := undef) rfl (by kernel_rfl) (by kernel_rfl) (by kernel_rfl) (fun _ _ _ h => h) (Or.inr ⟨rfl, rfl⟩) (by assumption) ?_
        try simp only [Act.put, List.setIfInBounds_toArray, List.set_cons_zero, List.set_cons_succ]
        refine wpAnyH_take (i := 12) (oi := { dst := some 81, op := Go.Op.load 23 (Go.Operand.tmp 80), type := 23, pos := "ref.go:41", after := #[{ on := 11, ground := Go.Ground.data }, { on := 10, ground := Go.Ground.guard }], guard := some (10, true) }) (v := undef) rfl (by kernel_rfl) (by kernel_rfl) (by kernel_rfl) (fun _ _ _ h => h) (Or.inr ⟨rfl, rfl⟩) (by assumption) ?_
        try simp only [Act.put, List.setIfInBounds_toArray, List.set_cons_zero, List.set_cons_succ]
        refine wpAnyH_take (i := 13) (oi := { dst := some 82, op := Go.Op.move (Go.Operand.tmp 3), type := 3, pos := "ref.go:41", after := #[{ on := 10, ground := Go.Ground.guard }], guard := some (10, true) }) (v := undef) rfl (by kernel_rfl) (by kernel_rfl) (by kernel_rfl) (fun _ _ _ h => h) (Or.inr ⟨rfl, rfl⟩) (by assumption) ?_
        try simp only [Act.put, List.setIfInBounds_toArray, List.set_cons_zero, List.set_cons_succ]
        refine wpAnyH_take (i := 14) (oi := { dst := some 83, op := Go.Op.binOp Go.BinOp.sub 3 (Go.Operand.tmp 82) (Go.Operand.const (Go.Value.int Go.IntKind.i64 1)) 3, type := 3, pos := "ref.go:41", after := #[{ on := 13, ground := Go.Ground.data }, { on := 10, ground := Go.Ground.guard }], guard := some (10, true) }) (v := undef) rfl (by kernel_rfl) (by kernel_rfl) (by kernel_rfl) (fun _ _ _ h => h) (Or.inr ⟨rfl, rfl⟩) (by assumption) ?_
        try simp only [Act.put, List.setIfInBounds_toArray, List.set_cons_zero, List.set_cons_succ]
        refine wpAnyH_take (i := 15) (oi := { dst := some 84, op := Go.Op.indexAddr 23 (Go.Operand.tmp 81) (Go.Operand.tmp 83), type := 0, pos := "ref.go:41", after := #[{ on := 12, ground := Go.Ground.data }, { on := 14, ground := Go.Ground.data }, { on := 10, ground := Go.Ground.guard }], guard := some (10, true) }) (v := undef) rfl (by kernel_rfl) (by kernel_rfl) (by kernel_rfl) (fun _ _ _ h => h) (Or.inr ⟨rfl, rfl⟩) (by assumption) ?_
        try simp only [Act.put, List.setIfInBounds_toArray, List.set_cons_zero, List.set_cons_succ]
        refine wpAnyH_take (i := 16) (oi := { dst := some 85, op := Go.Op.load 9 (Go.Operand.tmp 84), type := 9, pos := "ref.go:41", after := #[{ on := 15, ground := Go.Ground.data }, { on := 10, ground := Go.Ground.guard }], guard := some (10, true) }) (v := undef) rfl (by kernel_rfl) (by kernel_rfl) (by kernel_rfl) (fun _ _ _ h => h) (Or.inr ⟨rfl, rfl⟩) (by assumption) ?_
        try simp only [Act.put, List.setIfInBounds_toArray, List.set_cons_zero, List.set_cons_succ]
        refine wpAnyH_take (i := 17) (oi := { dst := some 86, op := Go.Op.fieldAddr 29 (Go.Operand.tmp 1) 5, type := 0, pos := "ref.go:41", after := #[{ on := 10, ground := Go.Ground.guard }], guard := some (10, true) }) (v := undef) rfl (by kernel_rfl) (by kernel_rfl) (by kernel_rfl) (fun _ _ _ h => h) (Or.inr ⟨rfl, rfl⟩) (by assumption) ?_
        try simp only [Act.put, List.setIfInBounds_toArray, List.set_cons_zero, List.set_cons_succ]
        refine wpAnyH_take (i := 18) (oi := { dst := some 87, op := Go.Op.load 23 (Go.Operand.tmp 86), type := 23, pos := "ref.go:41", after := #[{ on := 17, ground := Go.Ground.data }, { on := 10, ground := Go.Ground.guard }], guard := some (10, true) }) (v := undef) rfl (by kernel_rfl) (by kernel_rfl) (by kernel_rfl) (fun _ _ _ h => h) (Or.inr ⟨rfl, rfl⟩) (by assumption) ?_
        try simp only [Act.put, List.setIfInBounds_toArray, List.set_cons_zero, List.set_cons_succ]
        refine wpAnyH_take (i := 19) (oi := { dst := some 88, op := Go.Op.move (Go.Operand.tmp 3), type := 3, pos := "ref.go:41", after := #[{ on := 10, ground := Go.Ground.guard }], guard := some (10, true) }) (v := undef) rfl (by kernel_rfl) (by kernel_rfl) (by kernel_rfl) (fun _ _ _ h => h) (Or.inr ⟨rfl, rfl⟩) (by assumption) ?_
        try simp only [Act.put, List.setIfInBounds_toArray, List.set_cons_zero, List.set_cons_succ]
        refine wpAnyH_take (i := 20) (oi := { dst := some 89, op := Go.Op.indexAddr 23 (Go.Operand.tmp 87) (Go.Operand.tmp 88), type := 0, pos := "ref.go:41", after := #[{ on := 18, ground := Go.Ground.data }, { on := 19, ground := Go.Ground.data }, { on := 10, ground := Go.Ground.guard }], guard := some (10, true) }) (v := undef) rfl (by kernel_rfl) (by kernel_rfl) (by kernel_rfl) (fun _ _ _ h => h) (Or.inr ⟨rfl, rfl⟩) (by assumption) ?_
        try simp only [Act.put, List.setIfInBounds_toArray, List.set_cons_zero, List.set_cons_succ]
        refine wpAnyH_take (i := 21) (oi := { dst := some 90, op := Go.Op.load 9 (Go.Operand.tmp 89), type := 9, pos := "ref.go:41", after := #[{ on := 20, ground := Go.Ground.data }, { on := 10, ground := Go.Ground.guard }], guard := some (10, true) }) (v := undef) rfl (by kernel_rfl) (by kernel_rfl) (by kernel_rfl) (fun _ _ _ h => h) (Or.inr ⟨rfl, rfl⟩) (by assumption) ?_
        try simp only [Act.put, List.setIfInBounds_toArray, List.set_cons_zero, List.set_cons_succ]
        refine wpAnyH_take (i := 22) (oi := { dst := some 91, op := Go.Op.call { callee := Go.Callee.value (Go.Operand.func 104), args := #[Go.Operand.tmp 85, Go.Operand.tmp 90], argTypes := #[9, 9] }, type := 3, pos := "ref.go:41", after := #[{ on := 16, ground := Go.Ground.data }, { on := 21, ground := Go.Ground.data }, { on := 10, ground := Go.Ground.chain }, { on := 10, ground := Go.Ground.guard }], guard := some (10, true) }) (v := undef) rfl (by kernel_rfl) (by kernel_rfl) (by kernel_rfl) (fun _ _ _ h => h) (Or.inr ⟨rfl, rfl⟩) (by assumption) ?_
        try simp only [Act.put, List.setIfInBounds_toArray, List.set_cons_zero, List.set_cons_succ]
        refine wpAnyH_take (i := 23) (oi := { dst := some 92, op := Go.Op.binOp Go.BinOp.geq 3 (Go.Operand.tmp 91) (Go.Operand.const (Go.Value.int Go.IntKind.i64 0)) 3, type := 4, pos := "ref.go:41", after := #[{ on := 22, ground := Go.Ground.data }, { on := 10, ground := Go.Ground.guard }], guard := some (10, true) }) (v := undef) rfl (by kernel_rfl) (by kernel_rfl) (by kernel_rfl) (fun _ _ _ h => h) (Or.inr ⟨rfl, rfl⟩) (by assumption) ?_
        try simp only [Act.put, List.setIfInBounds_toArray, List.set_cons_zero, List.set_cons_succ]
        refine wpAnyH_take (i := 24) (oi := { dst := some 93, op := Go.Op.pick (Go.Operand.tmp 79) (Go.Operand.tmp 92) (Go.Operand.const (Go.Value.bool false)), type := 4, pos := "ref.go:41", after := #[{ on := 10, ground := Go.Ground.data }, { on := 23, ground := Go.Ground.data }, { on := 7, ground := Go.Ground.guard }], guard := some (7, false) }) (v := undef) rfl (by kernel_rfl) (by kernel_rfl) (by kernel_rfl) (fun _ _ _ h => h) (Or.inr ⟨rfl, rfl⟩) (by assumption) ?_
        try simp only [Act.put, List.setIfInBounds_toArray, List.set_cons_zero, List.set_cons_succ]
        refine tk 25 ?_
        refine wpAnyH_done (by kernel_rfl) ?_ _
        go_wp2
        go_ret
        exact ⟨ret_bool (by rw [HF.out]; rfl), HB.out⟩
      · rw [hr] at HF HRX
        by_cases hk0 : k = 0
        · have hpv : prevT p6 k = none := by unfold prevT; rw [if_pos hk0]
          rw [hpv, Kn.prevOk_none] at HF
          simp only [Bool.true_and] at HF
          have hgd : decide (0 < k) = false := by simp; omega
          have hgi : ¬ (0 : Int) < k := by omega
          clear hpv hk0 hr hmA
          go_upto_region 6 with fail
          refine wp_region_held_drew (S := fun w' => w'.cell? ⟨w.heap.size, 5, none⟩ = some (.slice (some ⟨blk, off, none⟩) p6.length h.mc) ∧ w'.cell? ⟨blk, off + k, none⟩ = some (.string x)) (by kernel_rfl) ⟨k5, e0⟩ (fun hHeld => ?_)
          refine tk 0 ?_
          refine tk 1 ?_
          refine tk 2 ?_
          refine tk 3 ?_
          refine tk 4 ?_
          refine wpAnyH_ready (rs := [5]) (by kernel_rfl) (by simp) ?_
          refine ac (fun K hK => ?_) AllReadyH.nil
          go_simp
          go_at_call 33
          refine (HRX.out _).mono ?_
          rintro e u1 ⟨rfl, hb⟩
          replace hb := Kn.below_via (Below.refl wr.heap.size wr) hb (Nat.le_refl _) ⟨rfl, rfl, rfl, rfl⟩
          replace k5 := (hb.cell (p := ⟨w.heap.size, 5, none⟩) hPw).trans k5
          replace e0 := (hb.cell (p := ⟨blk, off + k, none⟩) hbl).trans e0
          replace hbl := Nat.lt_of_lt_of_le hbl hb.size
          replace HKB := Lib.hid (HKB.out.below hb)
          replace HB := Lib.hid (HB.out.trans (hb.mono HB.out.size))
          replace hPw := Nat.lt_of_lt_of_le hPw hb.size
          clear hb
          refine hK.out _ _ ⟨k5, e0⟩ (fun hHeld => ?_)
          clear hK K
          try simp only [Act.put, List.setIfInBounds_toArray, List.set_cons_zero, List.set_cons_succ]
          refine tk 6 ?_
          refine tk 7 ?_
          refine tk 8 ?_
          refine tk 9 ?_
          refine tk 10 ?_
          refine wpAnyH_take (i := 11) (oi := { dst := some 80, op := Go.Op.fieldAddr 29 (Go.Operand.tmp 1) 5, type := 0, pos := "ref.go:41", after := #[{ on := 10, ground := Go.Ground.guard }], guard := some (10, true) }) (v := undef) rfl (by kernel_rfl) (by kernel_rfl) (by kernel_rfl) (fun _ _ _ h => h) (Or.inr ⟨rfl, rfl⟩) (by assumption) ?_
          try simp only [Act.put, List.setIfInBounds_toArray, List.set_cons_zero, List.set_cons_succ]
          refine wpAnyH_take (i := 12) (oi := { dst := some 81, op := Go.Op.load 23 (Go.Operand.tmp 80), type := 23, pos := "ref.go:41", after := #[{ on := 11, ground := Go.Ground.data }, { on := 10, ground := Go.Ground.guard }], guard := some (10, true) }) (v := undef) rfl (by kernel_rfl) (by kernel_rfl) (by kernel_rfl) (fun _ _ _ h => h) (Or.inr ⟨rfl, rfl⟩) (by assumption) ?_
          try simp only [Act.put, List.setIfInBounds_toArray, List.set_cons_zero, List.set_cons_succ]
          refine wpAnyH_take (i := 13) (oi := { dst := some 82, op := Go.Op.move (Go.Operand.tmp 3), type := 3, pos := "ref.go:41", after := #[{ on := 10, ground := Go.Ground.guard }], guard := some (10, true) }) (v := undef) rfl (by kernel_rfl) (by kernel_rfl) (by kernel_rfl) (fun _ _ _ h => h) (Or.inr ⟨rfl, rfl⟩) (by assumption) ?_
          try simp only [Act.put, List.setIfInBounds_toArray, List.set_cons_zero, List.set_cons_succ]
          refine wpAnyH_take (i := 14) (oi := { dst := some 83, op := Go.Op.binOp Go.BinOp.sub 3 (Go.Operand.tmp 82) (Go.Operand.const (Go.Value.int Go.IntKind.i64 1)) 3, type := 3, pos := "ref.go:41", after := #[{ on := 13, ground := Go.Ground.data }, { on := 10, ground := Go.Ground.guard }], guard := some (10, true) }) (v := undef) rfl (by kernel_rfl) (by kernel_rfl) (by kernel_rfl) (fun _ _ _ h => h) (Or.inr ⟨rfl, rfl⟩) (by assumption) ?_
          try simp only [Act.put, List.setIfInBounds_toArray, List.set_cons_zero, List.set_cons_succ]
          refine wpAnyH_take (i := 15) (oi := { dst := some 84, op := Go.Op.indexAddr 23 (Go.Operand.tmp 81) (Go.Operand.tmp 83), type := 0, pos := "ref.go:41", after := #[{ on := 12, ground := Go.Ground.data }, { on := 14, ground := Go.Ground.data }, { on := 10, ground := Go.Ground.guard }], guard := some (10, true) }) (v := undef) rfl (by kernel_rfl) (by kernel_rfl) (by kernel_rfl) (fun _ _ _ h => h) (Or.inr ⟨rfl, rfl⟩) (by assumption) ?_
          try simp only [Act.put, List.setIfInBounds_toArray, List.set_cons_zero, List.set_cons_succ]
          refine wpAnyH_take (i := 16) (oi := { dst := some 85, op := Go.Op.load 9 (Go.Operand.tmp 84), type := 9, pos := "ref.go:41", after := #[{ on := 15, ground := Go.Ground.data }, { on := 10, ground := Go.Ground.guard }], guard := some (10, true) }) (v := undef) rfl (by kernel_rfl) (by kernel_rfl) (by kernel_rfl) (fun _ _ _ h => h) (Or.inr ⟨rfl, rfl⟩) (by assumption) ?_
          try simp only [Act.put, List.setIfInBounds_toArray, List.set_cons_zero, List.set_cons_succ]
          refine wpAnyH_take (i := 17) (oi := { dst := some 86, op := Go.Op.fieldAddr 29 (Go.Operand.tmp 1) 5, type := 0, pos := "ref.go:41", after := #[{ on := 10, ground := Go.Ground.guard }], guard := some (10, true) }) (v := undef) rfl (by kernel_rfl) (by kernel_rfl) (by kernel_rfl) (fun _ _ _ h => h) (Or.inr ⟨rfl, rfl⟩) (by assumption) ?_
          try simp only [Act.put, List.setIfInBounds_toArray, List.set_cons_zero, List.set_cons_succ]
          refine wpAnyH_take (i := 18) (oi := { dst := some 87, op := Go.Op.load 23 (Go.Operand.tmp 86), type := 23, pos := "ref.go:41", after := #[{ on := 17, ground := Go.Ground.data }, { on := 10, ground := Go.Ground.guard }], guard := some (10, true) }) (v := undef) rfl (by kernel_rfl) (by kernel_rfl) (by kernel_rfl) (fun _ _ _ h => h) (Or.inr ⟨rfl, rfl⟩) (by assumption) ?_
          try simp only [Act.put, List.setIfInBounds_toArray, List.set_cons_zero, List.set_cons_succ]
          refine wpAnyH_take (i := 19) (oi := { dst := some 88, op := Go.Op.move (Go.Operand.tmp 3), type := 3, pos := "ref.go:41", after := #[{ on := 10, ground := Go.Ground.guard }], guard := some (10, true) }) (v := undef) rfl (by kernel_rfl) (by kernel_rfl) (by kernel_rfl) (fun _ _ _ h => h) (Or.inr ⟨rfl, rfl⟩) (by assumption) ?_
          try simp only [Act.put, List.setIfInBounds_toArray, List.set_cons_zero, List.set_cons_succ]
          refine wpAnyH_take (i := 20) (oi := { dst := some 89, op := Go.Op.indexAddr 23 (Go.Operand.tmp 87) (Go.Operand.tmp 88), type := 0, pos := "ref.go:41", after := #[{ on := 18, ground := Go.Ground.data }, { on := 19, ground := Go.Ground.data }, { on := 10, ground := Go.Ground.guard }], guard := some (10, true) }) (v := undef) rfl (by kernel_rfl) (by kernel_rfl) (by kernel_rfl) (fun _ _ _ h => h) (Or.inr ⟨rfl, rfl⟩) (by assumption) ?_
          try simp only [Act.put, List.setIfInBounds_toArray, List.set_cons_zero, List.set_cons_succ]
          refine wpAnyH_take (i := 21) (oi := { dst := some 90, op := Go.Op.load 9 (Go.Operand.tmp 89), type := 9, pos := "ref.go:41", after := #[{ on := 20, ground := Go.Ground.data }, { on := 10, ground := Go.Ground.guard }], guard := some (10, true) }) (v := undef) rfl (by kernel_rfl) (by kernel_rfl) (by kernel_rfl) (fun _ _ _ h => h) (Or.inr ⟨rfl, rfl⟩) (by assumption) ?_
          try simp only [Act.put, List.setIfInBounds_toArray, List.set_cons_zero, List.set_cons_succ]
          refine wpAnyH_take (i := 22) (oi := { dst := some 91, op := Go.Op.call { callee := Go.Callee.value (Go.Operand.func 104), args := #[Go.Operand.tmp 85, Go.Operand.tmp 90], argTypes := #[9, 9] }, type := 3, pos := "ref.go:41", after := #[{ on := 16, ground := Go.Ground.data }, { on := 21, ground := Go.Ground.data }, { on := 10, ground := Go.Ground.chain }, { on := 10, ground := Go.Ground.guard }], guard := some (10, true) }) (v := undef) rfl (by kernel_rfl) (by kernel_rfl) (by kernel_rfl) (fun _ _ _ h => h) (Or.inr ⟨rfl, rfl⟩) (by assumption) ?_
          try simp only [Act.put, List.setIfInBounds_toArray, List.set_cons_zero, List.set_cons_succ]
          refine wpAnyH_take (i := 23) (oi := { dst := some 92, op := Go.Op.binOp Go.BinOp.geq 3 (Go.Operand.tmp 91) (Go.Operand.const (Go.Value.int Go.IntKind.i64 0)) 3, type := 4, pos := "ref.go:41", after := #[{ on := 22, ground := Go.Ground.data }, { on := 10, ground := Go.Ground.guard }], guard := some (10, true) }) (v := undef) rfl (by kernel_rfl) (by kernel_rfl) (by kernel_rfl) (fun _ _ _ h => h) (Or.inr ⟨rfl, rfl⟩) (by assumption) ?_
          try simp only [Act.put, List.setIfInBounds_toArray, List.set_cons_zero, List.set_cons_succ]
          refine tk 24 ?_
          refine tk 25 ?_
          refine wpAnyH_done (by kernel_rfl) ?_ _
          go_wp2
          go_roundw
          case rel => first | exact ⟨k + 1, by omega, by go_num, HF, HB, HKB⟩ | exact ⟨k + 1, by omega, by omega, HF, HKB⟩ | exact ⟨k + 1, by omega, by omega, HF, HB, HKB⟩ | exact ⟨k + 1, by omega, by omega, HF⟩
          case measure => simp [intOf]; omega
        · obtain ⟨pid, hm2, d0⟩ := cell_text (HMB.out wr HB.out) (Below.refl _ _) (k := k - 1) (by omega) hmA
          have hps := HSH.out pid (List.mem_of_getElem? hm2)
          have hpv : prevT p6 k = some pid := by unfold prevT; rw [if_neg hk0, hm2]
          rw [hpv, Kn.prevOk_some] at HF
          simp only [Bool.true_and] at HF
          have hgd : decide (0 < k) = true := by simp; omega
          have hgi : (0 : Int) < k := by omega
          have hj0 : (1 : Int) ≤ (k : Int) := by omega
          have hj1 : (0 : Int) ≤ (k : Int) - 1 := by omega
          have hj2 : (k : Int) - 1 < (p6.length : Int) := by omega
          have hj3 : ((k : Int) - 1).toNat = k - 1 := by omega
          have hj4 : IntKind.i64.wrap ((k : Int) - 1) = (k : Int) - 1 := IntWalk.i64_in _ (by omega)
          obtain ⟨y, hy⟩ : ∃ y, cmpId pid x = y := ⟨_, rfl⟩
          have hy' : Lib.compareBytes pid.data.toList x.data.toList = y := hy
          have HCX : Hid (∀ W, Calls Tryz.prog 104 #[.string pid, .string x] W fun e w' => e = .returned (.int .i64 y) ∧ Below W.heap.size W w') := fun W => (rcompare_any pid x W hps).mono fun e w1 h => ⟨by rw [h.1, hy'], drawn_below h.2.out _⟩
          rw [hy] at HF
          clear hpv hk0 hm2 hy hy' hr hmA
          by_cases hge : 0 ≤ y
          · rw [show decide (y < 0) = false by simp; omega] at HF
            go_upto_region 6 with fail
            refine wp_region_held_drew (S := fun w' => w'.cell? ⟨w.heap.size, 5, none⟩ = some (.slice (some ⟨blk, off, none⟩) p6.length h.mc) ∧ w'.cell? ⟨blk, off + k, none⟩ = some (.string x) ∧ w'.cell? ⟨blk, off + (k - 1), none⟩ = some (.string pid)) (by kernel_rfl) ⟨k5, e0, d0⟩ (fun hHeld => ?_)
            refine tk 0 ?_
            refine tk 1 ?_
            refine tk 2 ?_
            refine tk 3 ?_
            refine tk 4 ?_
            refine wpAnyH_ready (rs := [5]) (by kernel_rfl) (by simp) ?_
            refine ac (fun K hK => ?_) AllReadyH.nil
            go_simp
            go_at_call 33
            refine (HRX.out _).mono ?_
            rintro e u1 ⟨rfl, hb⟩
            replace hb := Kn.below_via (Below.refl wr.heap.size wr) hb (Nat.le_refl _) ⟨rfl, rfl, rfl, rfl⟩
            replace k5 := (hb.cell (p := ⟨w.heap.size, 5, none⟩) hPw).trans k5
            replace e0 := (hb.cell (p := ⟨blk, off + k, none⟩) hbl).trans e0
            replace d0 := (hb.cell (p := ⟨blk, off + (k - 1), none⟩) hbl).trans d0
            replace hbl := Nat.lt_of_lt_of_le hbl hb.size
            replace HKB := Lib.hid (HKB.out.below hb)
            replace HB := Lib.hid (HB.out.trans (hb.mono HB.out.size))
            replace hPw := Nat.lt_of_lt_of_le hPw hb.size
            clear hb
            refine hK.out _ _ ⟨k5, e0, d0⟩ (fun hHeld => ?_)
            clear hK K
            try simp only [Act.put, List.setIfInBounds_toArray, List.set_cons_zero, List.set_cons_succ]
            refine tk 6 ?_
            refine tk 7 ?_
            refine tk 8 ?_
            refine tk 9 ?_
            refine tk 10 ?_
            refine tk 11 ?_
            refine tk 12 ?_
            refine tk 13 ?_
            refine tk 14 ?_
            refine tk 15 ?_
            refine tk 16 ?_
            refine tk 17 ?_
            refine tk 18 ?_
            refine tk 19 ?_
            refine tk 20 ?_
            refine tk 21 ?_
            refine wpAnyH_ready (rs := [22]) (by kernel_rfl) (by simp) ?_
            refine ac (fun K hK => ?_) AllReadyH.nil
            go_simp
            go_at_call 104
            refine (HCX.out _).mono ?_
            rintro e u2 ⟨rfl, hb⟩
            replace hb := Kn.below_via (Below.refl u1.heap.size u1) hb (Nat.le_refl _) ⟨rfl, rfl, rfl, rfl⟩
            replace k5 := (hb.cell (p := ⟨w.heap.size, 5, none⟩) hPw).trans k5
            replace e0 := (hb.cell (p := ⟨blk, off + k, none⟩) hbl).trans e0
            replace d0 := (hb.cell (p := ⟨blk, off + (k - 1), none⟩) hbl).trans d0
            replace hbl := Nat.lt_of_lt_of_le hbl hb.size
            replace HKB := Lib.hid (HKB.out.below hb)
            replace HB := Lib.hid (HB.out.trans (hb.mono HB.out.size))
            clear hb
            refine hK.out _ _ ⟨k5, e0, d0⟩ (fun hHeld => ?_)
            clear hK K
            try simp only [Act.put, List.setIfInBounds_toArray, List.set_cons_zero, List.set_cons_succ]
            refine tk 23 ?_
            refine tk 24 ?_
            refine tk 25 ?_
            refine wpAnyH_done (by kernel_rfl) ?_ _
            go_wp2
            go_ret
            exact ⟨ret_bool (by rw [HF.out]; rfl), HB.out⟩
          · rw [show decide (y < 0) = true by simp; omega] at HF
            simp only [Bool.true_and] at HF
            go_upto_region 6 with fail
            refine wp_region_held_drew (S := fun w' => w'.cell? ⟨w.heap.size, 5, none⟩ = some (.slice (some ⟨blk, off, none⟩) p6.length h.mc) ∧ w'.cell? ⟨blk, off + k, none⟩ = some (.string x) ∧ w'.cell? ⟨blk, off + (k - 1), none⟩ = some (.string pid)) (by kernel_rfl) ⟨k5, e0, d0⟩ (fun hHeld => ?_)
            refine tk 0 ?_
            refine tk 1 ?_
            refine tk 2 ?_
            refine tk 3 ?_
            refine tk 4 ?_
            refine wpAnyH_ready (rs := [5]) (by kernel_rfl) (by simp) ?_
            refine ac (fun K hK => ?_) AllReadyH.nil
            go_simp
            go_at_call 33
            refine (HRX.out _).mono ?_
            rintro e u1 ⟨rfl, hb⟩
            replace hb := Kn.below_via (Below.refl wr.heap.size wr) hb (Nat.le_refl _) ⟨rfl, rfl, rfl, rfl⟩
            replace k5 := (hb.cell (p := ⟨w.heap.size, 5, none⟩) hPw).trans k5
            replace e0 := (hb.cell (p := ⟨blk, off + k, none⟩) hbl).trans e0
            replace d0 := (hb.cell (p := ⟨blk, off + (k - 1), none⟩) hbl).trans d0
            replace hbl := Nat.lt_of_lt_of_le hbl hb.size
            replace HKB := Lib.hid (HKB.out.below hb)
            replace HB := Lib.hid (HB.out.trans (hb.mono HB.out.size))
            replace hPw := Nat.lt_of_lt_of_le hPw hb.size
            clear hb
            refine hK.out _ _ ⟨k5, e0, d0⟩ (fun hHeld => ?_)
            clear hK K
            try simp only [Act.put, List.setIfInBounds_toArray, List.set_cons_zero, List.set_cons_succ]
            refine tk 6 ?_
            refine tk 7 ?_
            refine tk 8 ?_
            refine tk 9 ?_
            refine tk 10 ?_
            refine tk 11 ?_
            refine tk 12 ?_
            refine tk 13 ?_
            refine tk 14 ?_
            refine tk 15 ?_
            refine tk 16 ?_
            refine tk 17 ?_
            refine tk 18 ?_
            refine tk 19 ?_
            refine tk 20 ?_
            refine tk 21 ?_
            refine wpAnyH_ready (rs := [22]) (by kernel_rfl) (by simp) ?_
            refine ac (fun K hK => ?_) AllReadyH.nil
            go_simp
            go_at_call 104
            refine (HCX.out _).mono ?_
            rintro e u2 ⟨rfl, hb⟩
            replace hb := Kn.below_via (Below.refl u1.heap.size u1) hb (Nat.le_refl _) ⟨rfl, rfl, rfl, rfl⟩
            replace k5 := (hb.cell (p := ⟨w.heap.size, 5, none⟩) hPw).trans k5
            replace e0 := (hb.cell (p := ⟨blk, off + k, none⟩) hbl).trans e0
            replace d0 := (hb.cell (p := ⟨blk, off + (k - 1), none⟩) hbl).trans d0
            replace hbl := Nat.lt_of_lt_of_le hbl hb.size
            replace HKB := Lib.hid (HKB.out.below hb)
            replace HB := Lib.hid (HB.out.trans (hb.mono HB.out.size))
            clear hb
            refine hK.out _ _ ⟨k5, e0, d0⟩ (fun hHeld => ?_)
            clear hK K
            try simp only [Act.put, List.setIfInBounds_toArray, List.set_cons_zero, List.set_cons_succ]
            refine tk 23 ?_
            refine tk 24 ?_
            refine tk 25 ?_
            refine wpAnyH_done (by kernel_rfl) ?_ _
            go_wp2
            go_roundw
            case rel => first | exact ⟨k + 1, by omega, by go_num, HF, HB, HKB⟩ | exact ⟨k + 1, by omega, by omega, HF, HKB⟩ | exact ⟨k + 1, by omega, by omega, HF, HB, HKB⟩ | exact ⟨k + 1, by omega, by omega, HF⟩
            case measure => simp [intOf]; omega
    · obtain rfl : k = p6.length := by omega
      have hi1 : ¬ (p6.length : Int) < (p6.length : Int) := by omega
      rw [List.drop_of_length_le (Nat.le_refl _)] at HF
      have HF2 : Hid (RS = ((p8.drop 0).all (fun x => decide (x.2.length ≤ 64)) && q2)) := by
        show RS = _
        rw [HF.out, ← HQ1.out]; unfold rmF; rfl
      clear HF
      obtain ⟨k0, k1, k2, k3, k4, k5, k6, k7, k8, k9, k10, k11⟩ := HKB.out.cs
      go_wp2
      clear k0 k1 k2 k3 k4 k5 k6 k7 k8 k9 k10 k11
      go_loopw [4] (fun i wr => ∃ k : Nat, k ≤ p8.length ∧ i = .int .i64 k ∧ Hid (RS = ((p8.drop k).all (fun x => decide (x.2.length ≤ 64)) && q2)) ∧ Hid (Below w.heap.size w wr) ∧ Hid (Blk wr w.heap.size [.int .i64 p1, .string p2, .string p3, .slice h.kA p4.length h.kc, .int .i64 p5, .slice h.mA p6.length h.mc, .slice h.cA p7.length h.cc, .slice h.rA p8.length h.rc, .slice h.zA p9.length h.zc, .slice h.iA p10.length h.ic, .bool p11, .slice h.fA p12.length h.fc])) (fun i _ => p8.length - (intOf i).toNat)
      case atStart => exact ⟨0, by omega, rfl, HF2, HB, HKB⟩
      case round =>
        clear HF2 HB HKB
        obtain ⟨k, hk, rfl, HF, HB, HKB⟩ := hrel
        by_cases hlt : k < p8.length
        · obtain ⟨blk, off, r, hrA, hbB, hmk, e0, e1, hf⟩ := (HRW.out _ HB.out).get (Below.refl _ _) hlt
          have hi1 : (k : Int) < (p8.length : Int) := by omega
          have hst := all_step (fun x : ByteArray × List At => decide (x.2.length ≤ 64)) hmk
          rw [hst] at HF
          have hvl := HL6.out _ (List.mem_of_getElem? hmk)
          simp only at hvl
          have k7 := HKB.out.c 7 _ rfl
          rw [hrA] at k7
          clear hst hf hmk hrA
          by_cases hv : r.v.length ≤ 64
          · have h2 : ¬ (64 : Int) < r.v.length := by omega
            rw [decide_eq_true hv] at HF
            simp only [Bool.true_and] at HF
            go_wp2
            go_roundw
            case rel => exact ⟨k + 1, by omega, by go_num, HF, HB, HKB⟩
            case measure => simp [intOf]; omega
          · have h2 : (64 : Int) < r.v.length := by omega
            rw [decide_eq_false hv] at HF
            go_wp2
            go_ret
            exact ⟨ret_bool (by rw [HF.out]; rfl), HB.out⟩
        · obtain rfl : k = p8.length := by omega
          have hi1 : ¬ (p8.length : Int) < (p8.length : Int) := by omega
          rw [List.drop_of_length_le (Nat.le_refl _)] at HF
          have HF2 : Hid (RS = (p10.drop 0).all (okItem p1)) := by
            show RS = _
            rw [HF.out, ← HQ2.out]; rfl
          clear HF
          obtain ⟨k0, k1, k2, k3, k4, k5, k6, k7, k8, k9, k10, k11⟩ := HKB.out.cs
          go_wp2
          clear k0 k1 k2 k3 k4 k5 k6 k7 k8 k9 k10 k11
          go_loopw [5] (fun i wr => ∃ k : Nat, k ≤ p10.length ∧ i = .int .i64 k ∧ Hid (RS = (p10.drop k).all (okItem p1)) ∧ Hid (Below w.heap.size w wr) ∧ Hid (Blk wr w.heap.size [.int .i64 p1, .string p2, .string p3, .slice h.kA p4.length h.kc, .int .i64 p5, .slice h.mA p6.length h.mc, .slice h.cA p7.length h.cc, .slice h.rA p8.length h.rc, .slice h.zA p9.length h.zc, .slice h.iA p10.length h.ic, .bool p11, .slice h.fA p12.length h.fc])) (fun i _ => p10.length - (intOf i).toNat)
          case atStart => exact ⟨0, by omega, rfl, HF2, HB, HKB⟩
          case round =>
            clear HF2 HB HKB
            obtain ⟨k, hk, rfl, HF, HB, HKB⟩ := hrel
            by_cases hlt : k < p10.length
            · obtain ⟨blk, off, hiA, hbB, z, hzk, hcell⟩ := (HIT.out _ HB.out).get hlt
              obtain ⟨e0, e1, e2, e3, e4, e5, e6, e7, e8⟩ := By.cellsI_at hcell
              have hi1 : (k : Int) < (p10.length : Int) := by omega
              have hst := all_step (okItem p1) hzk
              rw [hst] at HF
              have HIR := Lib.hid (By.refRight_any z)
              have HOK : Hid (okItem p1 z = (By.rightI z && (decide (p1 ≠ 1) || (!z.dead && !z.held)))) := rfl
              rw [HOK.out] at HF
              generalize By.rightI z = R at *
              obtain ⟨key, ⟨d, a, s⟩, dead, x, y, text, held⟩ := z
              unfold By.refV at HIR
              simp only at e0 e1 e2 e3 e4 e5 e6 e7 e8 HIR HF
              have k9 := HKB.out.c 9 _ rfl
              have k0 := HKB.out.c 0 _ rfl
              rw [hiA] at k9
              have hbl : blk < _ := Nat.lt_of_lt_of_le hbB (Nat.le_trans hB HB.out.size)
              have hPw := HKB.out.z
              clear hcell hst hzk HOK hiA
              go_wp2_with fail
              refine (HIR.out _).mono ?_
              rintro e u1 ⟨rfl, hb⟩
              replace e4 := (hb.cell (p := ⟨blk, off + k * 9 + 4, none⟩) hbl).trans e4
              replace e8 := (hb.cell (p := ⟨blk, off + k * 9 + 8, none⟩) hbl).trans e8
              replace k9 := (hb.cell (p := ⟨w.heap.size, 9, none⟩) hPw).trans k9
              replace k0 := (hb.cell (p := ⟨w.heap.size, 0, none⟩) hPw).trans k0
              replace HKB := Lib.hid (HKB.out.below hb)
              replace HB := Lib.hid (HB.out.trans (hb.mono HB.out.size))
              clear hb
              cases R
              · go_wp2
                go_ret
                exact ⟨ret_bool (by rw [HF.out]; rfl), HB.out⟩
              by_cases hp1 : p1 = 1
              · subst hp1
                cases dead
                · cases held
                  · simp at HF
                    go_wp2
                    go_roundw
                    case rel => exact ⟨k + 1, by omega, by go_num, HF, HB, HKB⟩
                    case measure => simp [intOf]; omega
                  · go_wp2
                    go_ret
                    exact ⟨ret_bool (by rw [HF.out]; rfl), HB.out⟩
                · go_wp2
                  go_ret
                  exact ⟨ret_bool (by rw [HF.out]; rfl), HB.out⟩
              · have hn1 : (p1 == 1) = false := by rw [beq_eq_false_iff_ne]; exact hp1
                rw [decide_eq_true hp1] at HF
                simp only [Bool.true_and, Bool.true_or] at HF
                go_wp2
                go_roundw
                case rel => exact ⟨k + 1, by omega, by go_num, HF, HB, HKB⟩
                case measure => simp [intOf]; omega
            · obtain rfl : k = p10.length := by omega
              have hi1 : ¬ (p10.length : Int) < (p10.length : Int) := by omega
              rw [List.drop_of_length_le (Nat.le_refl _)] at HF
              have k9 := HKB.out.c 9 _ rfl
              go_wp2
              go_ret
              exact ⟨ret_bool (by rw [HF.out]; rfl), HB.out⟩
end Go.Proofs.YtbookbgfipbaoaaGreatDoor
