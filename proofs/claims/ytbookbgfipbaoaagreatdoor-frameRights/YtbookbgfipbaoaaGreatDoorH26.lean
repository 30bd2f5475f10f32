/- The document's Right of a Frame; few. -/
import Derived.Test.YtbookbgfipbaoaaGreatDoorH25
import Derived.Test.YtbookbgfipbaoaaGreatDoorH2
import Derived.Lib.AppendStr
namespace Go.Proofs.YtbookbgfipbaoaaGreatDoor
open Go.RowKit

def staleR (f : Frm) : Bool := decide (f.know.length = 0) && (decide (f.clock = 0) && (decide (f.members.length = 0) && (decide (f.certs.length = 0) && (decide (f.rows.length = 0) && (decide (f.zone.length = 0) && (decide (f.items.length = 0) && (!f.whole && rightVecF f.floor)))))))
def rightR (f : Frm) : Bool := (rightL f.src.data.toList && rightL f.dst.data.toList) &&
  (if f.kind = 1 then listsF f && (Zo.rightZ f.zone && !f.whole) else if f.kind = 2 then listsF f && decide (f.zone.length = 0) else if f.kind = 3 then staleR f else false)
theorem lists_eq (f : Frm) : listsF f = (rightNewsF f && (decide (f.floor.length = 0) && (decide (f.kind ≠ 1) || stubsF f.items))) := by
  rw [Bool.eq_iff_iff]
  simp only [listsF, rightNewsF, rightMembersF, rightRowsF, rightItemsF, stubsF, okItem, Bool.and_eq_true, Bool.or_eq_true, decide_eq_true_eq, List.all_eq_true]
  constructor
  · rintro ⟨h1, h2, h3, h4, h5, h6, h7, h8, h9, h10, h11, h12, h13⟩
    refine ⟨⟨⟨h1, h2⟩, ⟨h3, h4⟩, ⟨h5, h11⟩, h6, ⟨h7, h8, h12⟩, h9, fun x hx => (h13 x hx).1⟩, h10, ?_⟩
    by_cases hk : f.kind = 1
    · exact .inr fun x hx => (h13 x hx).2.resolve_left (fun e => e hk)
    · exact .inl hk
  · rintro ⟨⟨⟨h1, h2⟩, ⟨h3, h4⟩, ⟨h5, h11⟩, h6, ⟨h7, h8, h12⟩, h9, h13⟩, h10, h14⟩
    exact ⟨h1, h2, h3, h4, h5, h6, h7, h8, h9, h10, h11, h12, fun x hx => ⟨h13 x hx, h14.imp id (fun g => g x hx)⟩⟩
theorem stale_eq (f : Frm) (hk : f.kind = 3) : staleR f = (rightVecF f.floor && sameFrm f (staleOf f)) := by
  rw [Bool.eq_iff_iff, Bool.and_eq_true, sameFrm_iff]
  obtain ⟨q1, q2, q3, q4, q5, q6, q7, q8, q9, q10, q11, q12⟩ := f
  simp only at hk
  subst hk
  simp only [staleR, staleOf, Bool.and_eq_true, decide_eq_true_eq, Frm.mk.injEq, Bool.not_eq_true']
  constructor
  · rintro ⟨h1, h2, h3, h4, h5, h6, h7, h8, h9⟩
    exact ⟨h9, trivial, trivial, trivial, List.eq_nil_of_length_eq_zero h1, h2, List.eq_nil_of_length_eq_zero h3, List.eq_nil_of_length_eq_zero h4, List.eq_nil_of_length_eq_zero h5, List.eq_nil_of_length_eq_zero h6, List.eq_nil_of_length_eq_zero h7, h8, trivial⟩
  · rintro ⟨h9, _, _, _, rfl, h2, rfl, rfl, rfl, rfl, rfl, h8, _⟩
    exact ⟨rfl, h2, rfl, rfl, rfl, rfl, rfl, h8, h9⟩
theorem right_eq (f : Frm) : rightR f = rightFrm f := by
  unfold rightR rightFrm
  congr 1
  by_cases k1 : f.kind = 1
  · rw [if_pos k1, if_pos k1, lists_eq]
    rw [decide_eq_false (fun e : f.kind ≠ 1 => e k1)]
    cases rightNewsF f <;> cases decide (f.floor.length = 0) <;> cases stubsF f.items <;> cases Zo.rightZ f.zone <;> cases f.whole <;> rfl
  · rw [if_neg k1, if_neg k1]
    by_cases k2 : f.kind = 2
    · rw [if_pos k2, if_pos k2, lists_eq, decide_eq_true (show f.kind ≠ 1 from k1)]
      cases rightNewsF f <;> cases decide (f.floor.length = 0) <;> cases decide (f.zone.length = 0) <;> rfl
    · rw [if_neg k2, if_neg k2]
      by_cases k3 : f.kind = 3
      · rw [if_pos k3, if_pos k3, stale_eq f k3]
      · rw [if_neg k3, if_neg k3]
set_option maxRecDepth 100000 in
set_option maxHeartbeats 8000000 in
theorem rright12_any (f : Frm) (h : Lie) (B : Nat) (w : World) (hB : B ≤ w.heap.size) (ha : RFrmAt w B f h) (na : FewF f) (ns : RShort f) :
    Calls Tryz.prog 12 #[frmV f h] w fun e w' => e = .returned (.bool (rightFrm f)) ∧ Below w.heap.size w w' := by
  rw [← right_eq]
  have HF : Hid (rightR f = ((rightL f.src.data.toList && rightL f.dst.data.toList) && (if f.kind = 1 then listsF f && (Zo.rightZ f.zone && !f.whole) else if f.kind = 2 then listsF f && decide (f.zone.length = 0) else if f.kind = 3 then (decide (f.know.length = 0) && (decide (f.clock = 0) && (decide (f.members.length = 0) && (decide (f.certs.length = 0) && (decide (f.rows.length = 0) && (decide (f.zone.length = 0) && (decide (f.items.length = 0) && (!f.whole && rightVecF f.floor)))))))) else false))) := rfl
  have HC1 : Hid (∀ W, Below w.heap.size w W → Calls Tryz.prog 33 #[.string f.src] W fun e w' => e = .returned (.bool (rightL f.src.data.toList)) ∧ Below W.heap.size W w') := fun W _ => (rright_any _ W).mono fun _ _ h => ⟨h.1, h.2 ▸ Below.refl _ _⟩
  have HC2 : Hid (∀ W, Below w.heap.size w W → Calls Tryz.prog 33 #[.string f.dst] W fun e w' => e = .returned (.bool (rightL f.dst.data.toList)) ∧ Below W.heap.size W w') := fun W _ => (rright_any _ W).mono fun _ _ h => ⟨h.1, h.2 ▸ Below.refl _ _⟩
  have HC3 : Hid (∀ W, Below w.heap.size w W → Calls Tryz.prog 34 #[frmV f h] W fun e w' => e = .returned (.bool (listsF f)) ∧ Below W.heap.size W w') := fun W hb => lists12_any f h B W (Nat.le_trans hB hb.size) (ha.keep (hb.mono hB)) na ns
  have HC4 : Hid (∀ W, Below w.heap.size w W → Calls Tryz.prog 35 #[.slice h.zA f.zone.length h.zc] W fun e w' => e = .returned (.bool (Zo.rightZ f.zone)) ∧ Below W.heap.size W w') := fun W hb => Zo.rright_any _ _ _ _ B W (Nat.le_trans hB hb.size) (ha.zone.keep (hb.mono hB)) (by have := na.zone.1; omega)
  have HC6 : Hid (∀ W, Below w.heap.size w W → Calls Tryz.prog 36 #[.slice h.fA f.floor.length h.fc] W fun e w' => e = .returned (.bool (rightVecF f.floor)) ∧ Below W.heap.size W w') := fun W hb => rvec12_any _ _ _ _ B W (ha.floor.keep (hb.mono hB)) (by have := na.floor; omega) ns.floor
  generalize rightR f = RS at *
  generalize rightL f.src.data.toList = b1 at *
  generalize rightL f.dst.data.toList = b2 at *
  generalize listsF f = b3 at *
  generalize Zo.rightZ f.zone = b4 at *
  generalize rightVecF f.floor = b6 at *
  clear ha na ns hB
  unfold frmV at *
  obtain ⟨p1, p2, p3, p4, p5, p6, p7, p8, p9, p10, p11, p12⟩ := f
  simp only at HF HC1 HC2 HC3 HC4 HC6 ⊢
  go_enter Tryz.func12, Tryz.ntmps12
  go_upto_region 1 with fail
  have HKB : Hid (Blk (w.alloc (.cells #[.int .i64 p1, .string p2, .string p3, .slice h.kA p4.length h.kc, .int .i64 p5, .slice h.mA p6.length h.mc, .slice h.cA p7.length h.cc, .slice h.rA p8.length h.rc, .slice h.zA p9.length h.zc, .slice h.iA p10.length h.ic, .bool p11, .slice h.fA p12.length h.fc] 29)) w.heap.size [.int .i64 p1, .string p2, .string p3, .slice h.kA p4.length h.kc, .int .i64 p5, .slice h.mA p6.length h.mc, .slice h.cA p7.length h.cc, .slice h.rA p8.length h.rc, .slice h.zA p9.length h.zc, .slice h.iA p10.length h.ic, .bool p11, .slice h.fA p12.length h.fc]) := Blk.new w [.int .i64 p1, .string p2, .string p3, .slice h.kA p4.length h.kc, .int .i64 p5, .slice h.mA p6.length h.mc, .slice h.cA p7.length h.cc, .slice h.rA p8.length h.rc, .slice h.zA p9.length h.zc, .slice h.iA p10.length h.ic, .bool p11, .slice h.fA p12.length h.fc] 29
  have HB : Hid (Below w.heap.size w (w.alloc (.cells #[.int .i64 p1, .string p2, .string p3, .slice h.kA p4.length h.kc, .int .i64 p5, .slice h.mA p6.length h.mc, .slice h.cA p7.length h.cc, .slice h.rA p8.length h.rc, .slice h.zA p9.length h.zc, .slice h.iA p10.length h.ic, .bool p11, .slice h.fA p12.length h.fc] 29))) := (Below.refl _ _).alloc (Nat.le_refl _) _
  generalize (w.alloc (.cells #[.int .i64 p1, .string p2, .string p3, .slice h.kA p4.length h.kc, .int .i64 p5, .slice h.mA p6.length h.mc, .slice h.cA p7.length h.cc, .slice h.rA p8.length h.rc, .slice h.zA p9.length h.zc, .slice h.iA p10.length h.ic, .bool p11, .slice h.fA p12.length h.fc] 29)) = W0 at *
  obtain ⟨k0, k1, k2, k3, k4, k5, k6, k7, k8, k9, k10, k11⟩ := HKB.out.cs
  go_wp2_with fail
  clear k0 k1 k2 k3 k4 k5 k6 k7 k8 k9 k10 k11
  refine (HC1.out _ HB.out).mono ?_
  rintro e w1 ⟨rfl, hb⟩
  replace HKB := Lib.hid (HKB.out.below hb)
  replace HB := Lib.hid (HB.out.trans (hb.mono HB.out.size))
  clear hb HC1
  cases b1
  · skip
    obtain ⟨k0, k1, k2, k3, k4, k5, k6, k7, k8, k9, k10, k11⟩ := HKB.out.cs
    go_wp2
    go_ret
    exact ⟨ret_bool (by rw [HF.out]; simp), HB.out⟩
  obtain ⟨k0, k1, k2, k3, k4, k5, k6, k7, k8, k9, k10, k11⟩ := HKB.out.cs
  go_wp2_with fail
  clear k0 k1 k2 k3 k4 k5 k6 k7 k8 k9 k10 k11
  refine (HC2.out _ HB.out).mono ?_
  rintro e w1 ⟨rfl, hb⟩
  replace HKB := Lib.hid (HKB.out.below hb)
  replace HB := Lib.hid (HB.out.trans (hb.mono HB.out.size))
  clear hb HC2
  cases b2
  · skip
    obtain ⟨k0, k1, k2, k3, k4, k5, k6, k7, k8, k9, k10, k11⟩ := HKB.out.cs
    go_wp2
    go_ret
    exact ⟨ret_bool (by rw [HF.out]; simp), HB.out⟩
  by_cases hk1 : p1 = 1
  · subst hk1
    obtain ⟨k0, k1, k2, k3, k4, k5, k6, k7, k8, k9, k10, k11⟩ := HKB.out.cs
    go_wp2_with fail
    clear k0 k1 k2 k3 k4 k5 k6 k7 k8 k9 k10 k11
    refine (HC3.out _ HB.out).mono ?_
    rintro e w1 ⟨rfl, hb⟩
    replace HKB := Lib.hid (HKB.out.below hb)
    replace HB := Lib.hid (HB.out.trans (hb.mono HB.out.size))
    clear hb HC3
    cases b3
    · skip
      obtain ⟨k0, k1, k2, k3, k4, k5, k6, k7, k8, k9, k10, k11⟩ := HKB.out.cs
      go_wp2
      go_ret
      exact ⟨ret_bool (by rw [HF.out]; simp), HB.out⟩
    obtain ⟨k0, k1, k2, k3, k4, k5, k6, k7, k8, k9, k10, k11⟩ := HKB.out.cs
    go_wp2_with fail
    clear k0 k1 k2 k3 k4 k5 k6 k7 k8 k9 k10 k11
    refine (HC4.out _ HB.out).mono ?_
    rintro e w1 ⟨rfl, hb⟩
    replace HKB := Lib.hid (HKB.out.below hb)
    replace HB := Lib.hid (HB.out.trans (hb.mono HB.out.size))
    clear hb HC4
    cases b4
    · skip
      obtain ⟨k0, k1, k2, k3, k4, k5, k6, k7, k8, k9, k10, k11⟩ := HKB.out.cs
      go_wp2
      go_ret
      exact ⟨ret_bool (by rw [HF.out]; simp), HB.out⟩
    cases p11
    · skip
      obtain ⟨k0, k1, k2, k3, k4, k5, k6, k7, k8, k9, k10, k11⟩ := HKB.out.cs
      go_wp2
      go_ret
      exact ⟨ret_bool (by rw [HF.out]; simp), HB.out⟩
    · skip
      obtain ⟨k0, k1, k2, k3, k4, k5, k6, k7, k8, k9, k10, k11⟩ := HKB.out.cs
      go_wp2
      go_ret
      exact ⟨ret_bool (by rw [HF.out]; simp), HB.out⟩
  by_cases hk2 : p1 = 2
  · subst hk2
    obtain ⟨k0, k1, k2, k3, k4, k5, k6, k7, k8, k9, k10, k11⟩ := HKB.out.cs
    go_wp2_with fail
    clear k0 k1 k2 k3 k4 k5 k6 k7 k8 k9 k10 k11
    refine (HC3.out _ HB.out).mono ?_
    rintro e w1 ⟨rfl, hb⟩
    replace HKB := Lib.hid (HKB.out.below hb)
    replace HB := Lib.hid (HB.out.trans (hb.mono HB.out.size))
    clear hb HC3
    cases b3
    · skip
      obtain ⟨k0, k1, k2, k3, k4, k5, k6, k7, k8, k9, k10, k11⟩ := HKB.out.cs
      go_wp2
      go_ret
      exact ⟨ret_bool (by rw [HF.out]; simp), HB.out⟩
    by_cases hp : p9.length = 0
    rotate_left
    · skip
      have hi : ((p9.length : Int) == 0) = false := by rw [beq_eq_false_iff_ne]; omega
      rw [decide_eq_false hp] at HF
      obtain ⟨k0, k1, k2, k3, k4, k5, k6, k7, k8, k9, k10, k11⟩ := HKB.out.cs
      go_wp2
      go_ret
      exact ⟨ret_bool (by rw [HF.out]; simp), HB.out⟩
    have hi1 : ((p9.length : Int) == 0) = true := by rw [hp]; rfl
    rw [decide_eq_true hp] at HF
    clear hp
    obtain ⟨k0, k1, k2, k3, k4, k5, k6, k7, k8, k9, k10, k11⟩ := HKB.out.cs
    go_wp2
    go_ret
    exact ⟨ret_bool (by rw [HF.out]; simp), HB.out⟩
  by_cases hk3 : p1 = 3
  · subst hk3
    by_cases hp : p4.length = 0
    rotate_left
    · skip
      have hi : ((p4.length : Int) == 0) = false := by rw [beq_eq_false_iff_ne]; omega
      rw [decide_eq_false hp] at HF
      obtain ⟨k0, k1, k2, k3, k4, k5, k6, k7, k8, k9, k10, k11⟩ := HKB.out.cs
      go_wp2
      go_ret
      exact ⟨ret_bool (by rw [HF.out]; simp), HB.out⟩
    have hi1 : ((p4.length : Int) == 0) = true := by rw [hp]; rfl
    rw [decide_eq_true hp] at HF
    clear hp
    by_cases hp : p5 = 0
    rotate_left
    · skip
      have hi : (p5 == 0) = false := by rw [beq_eq_false_iff_ne]; exact hp
      rw [decide_eq_false hp] at HF
      obtain ⟨k0, k1, k2, k3, k4, k5, k6, k7, k8, k9, k10, k11⟩ := HKB.out.cs
      go_wp2
      go_ret
      exact ⟨ret_bool (by rw [HF.out]; simp), HB.out⟩
    have hi2 : (p5 == 0) = true := by rw [hp]; rfl
    rw [decide_eq_true hp] at HF
    clear hp
    by_cases hp : p6.length = 0
    rotate_left
    · skip
      have hi : ((p6.length : Int) == 0) = false := by rw [beq_eq_false_iff_ne]; omega
      rw [decide_eq_false hp] at HF
      obtain ⟨k0, k1, k2, k3, k4, k5, k6, k7, k8, k9, k10, k11⟩ := HKB.out.cs
      go_wp2
      go_ret
      exact ⟨ret_bool (by rw [HF.out]; simp), HB.out⟩
    have hi3 : ((p6.length : Int) == 0) = true := by rw [hp]; rfl
    rw [decide_eq_true hp] at HF
    clear hp
    by_cases hp : p7.length = 0
    rotate_left
    · skip
      have hi : ((p7.length : Int) == 0) = false := by rw [beq_eq_false_iff_ne]; omega
      rw [decide_eq_false hp] at HF
      obtain ⟨k0, k1, k2, k3, k4, k5, k6, k7, k8, k9, k10, k11⟩ := HKB.out.cs
      go_wp2
      go_ret
      exact ⟨ret_bool (by rw [HF.out]; simp), HB.out⟩
    have hi4 : ((p7.length : Int) == 0) = true := by rw [hp]; rfl
    rw [decide_eq_true hp] at HF
    clear hp
    by_cases hp : p8.length = 0
    rotate_left
    · skip
      have hi : ((p8.length : Int) == 0) = false := by rw [beq_eq_false_iff_ne]; omega
      rw [decide_eq_false hp] at HF
      obtain ⟨k0, k1, k2, k3, k4, k5, k6, k7, k8, k9, k10, k11⟩ := HKB.out.cs
      go_wp2
      go_ret
      exact ⟨ret_bool (by rw [HF.out]; simp), HB.out⟩
    have hi5 : ((p8.length : Int) == 0) = true := by rw [hp]; rfl
    rw [decide_eq_true hp] at HF
    clear hp
    by_cases hp : p9.length = 0
    rotate_left
    · skip
      have hi : ((p9.length : Int) == 0) = false := by rw [beq_eq_false_iff_ne]; omega
      rw [decide_eq_false hp] at HF
      obtain ⟨k0, k1, k2, k3, k4, k5, k6, k7, k8, k9, k10, k11⟩ := HKB.out.cs
      go_wp2
      go_ret
      exact ⟨ret_bool (by rw [HF.out]; simp), HB.out⟩
    have hi6 : ((p9.length : Int) == 0) = true := by rw [hp]; rfl
    rw [decide_eq_true hp] at HF
    clear hp
    by_cases hp : p10.length = 0
    rotate_left
    · skip
      have hi : ((p10.length : Int) == 0) = false := by rw [beq_eq_false_iff_ne]; omega
      rw [decide_eq_false hp] at HF
      obtain ⟨k0, k1, k2, k3, k4, k5, k6, k7, k8, k9, k10, k11⟩ := HKB.out.cs
      go_wp2
      go_ret
      exact ⟨ret_bool (by rw [HF.out]; simp), HB.out⟩
    have hi7 : ((p10.length : Int) == 0) = true := by rw [hp]; rfl
    rw [decide_eq_true hp] at HF
    clear hp
    cases p11
    rotate_left
    · skip
      obtain ⟨k0, k1, k2, k3, k4, k5, k6, k7, k8, k9, k10, k11⟩ := HKB.out.cs
      go_wp2
      go_ret
      exact ⟨ret_bool (by rw [HF.out]; simp), HB.out⟩
    obtain ⟨k0, k1, k2, k3, k4, k5, k6, k7, k8, k9, k10, k11⟩ := HKB.out.cs
    go_wp2_with fail
    clear k0 k1 k2 k3 k4 k5 k6 k7 k8 k9 k10 k11
    refine (HC6.out _ HB.out).mono ?_
    rintro e w1 ⟨rfl, hb⟩
    replace HKB := Lib.hid (HKB.out.below hb)
    replace HB := Lib.hid (HB.out.trans (hb.mono HB.out.size))
    clear hb HC6
    obtain ⟨k0, k1, k2, k3, k4, k5, k6, k7, k8, k9, k10, k11⟩ := HKB.out.cs
    go_wp2
    go_ret
    exact ⟨ret_bool (by rw [HF.out]; simp), HB.out⟩
  have hn1 : (p1 == 1) = false := by rw [beq_eq_false_iff_ne]; exact hk1
  have hn2 : (p1 == 2) = false := by rw [beq_eq_false_iff_ne]; exact hk2
  have hn3 : (p1 == 3) = false := by rw [beq_eq_false_iff_ne]; exact hk3
  obtain ⟨k0, k1, k2, k3, k4, k5, k6, k7, k8, k9, k10, k11⟩ := HKB.out.cs
  go_wp2
  go_ret
  exact ⟨ret_bool (by rw [HF.out]; simp [hk1, hk2, hk3]), HB.out⟩
def okSpot (i : By.Itm) : Bool := decide (i.x ≤ 1099511627776) && (decide (-1099511627776 ≤ i.x) && (decide (i.y ≤ 1099511627776) && (decide (-1099511627776 ≤ i.y) && decide (i.text.size ≤ 100))))
def okStep (r : Zo.RSt) : Bool := decide (r.x ≤ 1099511627776) && (decide (-1099511627776 ≤ r.x) && (decide (r.y ≤ 1099511627776) && (decide (-1099511627776 ≤ r.y) && (decide (r.sz ≤ 1099511627776) && decide (-1099511627776 ≤ r.sz)))))
def few12 (f : Frm) : Bool := decide (f.know.length ≤ 70) && (decide (f.members.length ≤ 70) && (decide (f.certs.length ≤ 70) && (decide (f.rows.length ≤ 70) && (decide (f.items.length ≤ 40) && (decide (f.floor.length ≤ 70) && (decide (f.zone.length ≤ 40) && ((f.rows.all fun x => decide (x.2.length ≤ 70)) && ((f.know.all fun x => decide (x.2.2.length ≤ 200)) && (f.items.all okSpot && f.zone.all okStep)))))))))
theorem few_of {f : Frm} (h : few12 f = true) : FewF f := by
  unfold few12 at h
  simp only [Bool.and_eq_true, decide_eq_true_eq, List.all_eq_true] at h
  obtain ⟨h1, h2, h3, h4, h5, h6, h7, h8, h9, h10, h11⟩ := h
  refine ⟨⟨by omega, fun z hz => by have := h9 z hz; omega⟩, by omega, by omega, ⟨by omega, fun z hz => by have := h8 z hz; omega⟩, ⟨by omega, fun r hr => ?_⟩, ⟨by omega, fun i hi => ?_⟩, by omega⟩
  · have := h11 r hr
    simp only [okStep, Bool.and_eq_true, decide_eq_true_eq] at this
    unfold Zo.SmallR Zo.Small
    omega
  · have := h10 i hi
    simp only [okSpot, Bool.and_eq_true, decide_eq_true_eq] at this
    have e : (2 : Nat) ^ 53 = 9007199254740992 := by decide
    unfold SmallI
    omega
set_option maxRecDepth 100000 in
set_option maxHeartbeats 8000000 in
theorem few12_any (f : Frm) (h : Lie) (B : Nat) (w : World) (hB : B ≤ w.heap.size) (ha : RFrmAt w B f h) (hn : f.know.length ≤ 9223372036854775807 ∧ f.members.length ≤ 9223372036854775807 ∧ f.certs.length ≤ 9223372036854775807 ∧ f.rows.length ≤ 9223372036854775807 ∧ f.items.length ≤ 9223372036854775807 ∧ f.floor.length ≤ 9223372036854775807 ∧ f.zone.length ≤ 9223372036854775807) :
    Calls Tryz.prog 8 #[frmV f h] w fun e w' => e = .returned (.bool (few12 f)) ∧ Below w.heap.size w w' := by
  have HKM : Hid (∀ W, Below w.heap.size w W → Kn.MatAt W B h.kA f.know.length f.know) := fun W hb => ha.know.keep (hb.mono hB)
  have HRW : Hid (∀ W, Below w.heap.size w W → Mx.MatAt W B h.rA f.rows.length f.rows) := fun W hb => ha.rows.keep (hb.mono hB)
  have HIT : Hid (∀ W, Below w.heap.size w W → RowAt By.cellsI 9 W B h.iA f.items.length f.items) := fun W hb => ha.items.keep (hb.mono hB)
  have HZT : Hid (∀ W, Below w.heap.size w W → RowAt Zo.cellsR 4 W B h.zA f.zone.length f.zone) := fun W hb => ha.zone.keep (hb.mono hB)
  have HF : Hid (few12 f = (decide (f.know.length ≤ 70) && (decide (f.members.length ≤ 70) && (decide (f.certs.length ≤ 70) && (decide (f.rows.length ≤ 70) && (decide (f.items.length ≤ 40) && (decide (f.floor.length ≤ 70) && (decide (f.zone.length ≤ 40) && ((f.rows.all fun x => decide (x.2.length ≤ 70)) && ((f.know.all fun x => decide (x.2.2.length ≤ 200)) && (f.items.all okSpot && f.zone.all okStep))))))))))) := rfl
  obtain ⟨hn1, hn2, hn3, hn4, hn5, hn6, hn7⟩ := hn
  generalize few12 f = RS at *
  clear ha
  unfold frmV
  obtain ⟨p1, p2, p3, p4, p5, p6, p7, p8, p9, p10, p11, p12⟩ := f
  simp only at HF HKM HRW HIT HZT hn1 hn2 hn3 hn4 hn5 hn6 hn7 ⊢
  go_enter Tryz.func8, Tryz.ntmps8
  go_upto_region 1 with fail
  have HKB : Hid (Blk (w.alloc (.cells #[.int .i64 p1, .string p2, .string p3, .slice h.kA p4.length h.kc, .int .i64 p5, .slice h.mA p6.length h.mc, .slice h.cA p7.length h.cc, .slice h.rA p8.length h.rc, .slice h.zA p9.length h.zc, .slice h.iA p10.length h.ic, .bool p11, .slice h.fA p12.length h.fc] 29)) w.heap.size [.int .i64 p1, .string p2, .string p3, .slice h.kA p4.length h.kc, .int .i64 p5, .slice h.mA p6.length h.mc, .slice h.cA p7.length h.cc, .slice h.rA p8.length h.rc, .slice h.zA p9.length h.zc, .slice h.iA p10.length h.ic, .bool p11, .slice h.fA p12.length h.fc]) := Blk.new w [.int .i64 p1, .string p2, .string p3, .slice h.kA p4.length h.kc, .int .i64 p5, .slice h.mA p6.length h.mc, .slice h.cA p7.length h.cc, .slice h.rA p8.length h.rc, .slice h.zA p9.length h.zc, .slice h.iA p10.length h.ic, .bool p11, .slice h.fA p12.length h.fc] 29
  have HB : Hid (Below w.heap.size w (w.alloc (.cells #[.int .i64 p1, .string p2, .string p3, .slice h.kA p4.length h.kc, .int .i64 p5, .slice h.mA p6.length h.mc, .slice h.cA p7.length h.cc, .slice h.rA p8.length h.rc, .slice h.zA p9.length h.zc, .slice h.iA p10.length h.ic, .bool p11, .slice h.fA p12.length h.fc] 29))) := (Below.refl _ _).alloc (Nat.le_refl _) _
  generalize (w.alloc (.cells #[.int .i64 p1, .string p2, .string p3, .slice h.kA p4.length h.kc, .int .i64 p5, .slice h.mA p6.length h.mc, .slice h.cA p7.length h.cc, .slice h.rA p8.length h.rc, .slice h.zA p9.length h.zc, .slice h.iA p10.length h.ic, .bool p11, .slice h.fA p12.length h.fc] 29)) = W0 at *
  by_cases hp : p4.length ≤ 70
  rotate_left
  · skip
    have hi : (70 : Int) < (p4.length : Int) := by omega
    rw [decide_eq_false hp] at HF
    obtain ⟨k0, k1, k2, k3, k4, k5, k6, k7, k8, k9, k10, k11⟩ := HKB.out.cs
    go_wp2
    go_ret
    exact ⟨ret_bool (by rw [HF.out]; simp), HB.out⟩
  have hi1 : ¬ (70 : Int) < (p4.length : Int) := by omega
  rw [decide_eq_true hp] at HF
  have hs1 := hp
  clear hp
  by_cases hp : p6.length ≤ 70
  rotate_left
  · skip
    have hi : (70 : Int) < (p6.length : Int) := by omega
    rw [decide_eq_false hp] at HF
    obtain ⟨k0, k1, k2, k3, k4, k5, k6, k7, k8, k9, k10, k11⟩ := HKB.out.cs
    go_wp2
    go_ret
    exact ⟨ret_bool (by rw [HF.out]; simp), HB.out⟩
  have hi2 : ¬ (70 : Int) < (p6.length : Int) := by omega
  rw [decide_eq_true hp] at HF
  clear hp
  by_cases hp : p7.length ≤ 70
  rotate_left
  · skip
    have hi : (70 : Int) < (p7.length : Int) := by omega
    rw [decide_eq_false hp] at HF
    obtain ⟨k0, k1, k2, k3, k4, k5, k6, k7, k8, k9, k10, k11⟩ := HKB.out.cs
    go_wp2
    go_ret
    exact ⟨ret_bool (by rw [HF.out]; simp), HB.out⟩
  have hi3 : ¬ (70 : Int) < (p7.length : Int) := by omega
  rw [decide_eq_true hp] at HF
  clear hp
  by_cases hp : p8.length ≤ 70
  rotate_left
  · skip
    have hi : (70 : Int) < (p8.length : Int) := by omega
    rw [decide_eq_false hp] at HF
    obtain ⟨k0, k1, k2, k3, k4, k5, k6, k7, k8, k9, k10, k11⟩ := HKB.out.cs
    go_wp2
    go_ret
    exact ⟨ret_bool (by rw [HF.out]; simp), HB.out⟩
  have hi4 : ¬ (70 : Int) < (p8.length : Int) := by omega
  rw [decide_eq_true hp] at HF
  have hs4 := hp
  clear hp
  by_cases hp : p10.length ≤ 40
  rotate_left
  · skip
    have hi : (40 : Int) < (p10.length : Int) := by omega
    rw [decide_eq_false hp] at HF
    obtain ⟨k0, k1, k2, k3, k4, k5, k6, k7, k8, k9, k10, k11⟩ := HKB.out.cs
    go_wp2
    go_ret
    exact ⟨ret_bool (by rw [HF.out]; simp), HB.out⟩
  have hi5 : ¬ (40 : Int) < (p10.length : Int) := by omega
  rw [decide_eq_true hp] at HF
  have hs5 := hp
  clear hp
  by_cases hp : p12.length ≤ 70
  rotate_left
  · skip
    have hi : (70 : Int) < (p12.length : Int) := by omega
    rw [decide_eq_false hp] at HF
    obtain ⟨k0, k1, k2, k3, k4, k5, k6, k7, k8, k9, k10, k11⟩ := HKB.out.cs
    go_wp2
    go_ret
    exact ⟨ret_bool (by rw [HF.out]; simp), HB.out⟩
  have hi6 : ¬ (70 : Int) < (p12.length : Int) := by omega
  rw [decide_eq_true hp] at HF
  clear hp
  by_cases hp : p9.length ≤ 40
  rotate_left
  · skip
    have hi : (40 : Int) < (p9.length : Int) := by omega
    rw [decide_eq_false hp] at HF
    obtain ⟨k0, k1, k2, k3, k4, k5, k6, k7, k8, k9, k10, k11⟩ := HKB.out.cs
    go_wp2
    go_ret
    exact ⟨ret_bool (by rw [HF.out]; simp), HB.out⟩
  have hi7 : ¬ (40 : Int) < (p9.length : Int) := by omega
  rw [decide_eq_true hp] at HF
  have hs7 := hp
  clear hp
  simp only [Bool.true_and] at HF
  have HL : Hid (RS = ((p8.drop 0).all (fun x => decide (x.2.length ≤ 70)) && (p4.all (fun x => decide (x.2.2.length ≤ 200)) && (p10.all okSpot && p9.all okStep)))) := HF.out
  clear HF
  obtain ⟨k0, k1, k2, k3, k4, k5, k6, k7, k8, k9, k10, k11⟩ := HKB.out.cs
  go_wp2
  clear k0 k1 k2 k3 k4 k5 k6 k7 k8 k9 k10 k11
  go_loopw [3] (fun i wr => ∃ k : Nat, k ≤ p8.length ∧ i = .int .i64 k ∧ Hid (RS = ((p8.drop k).all (fun x => decide (x.2.length ≤ 70)) && (p4.all (fun x => decide (x.2.2.length ≤ 200)) && (p10.all okSpot && p9.all okStep)))) ∧ Hid (Below w.heap.size w wr) ∧ Hid (Blk wr w.heap.size [.int .i64 p1, .string p2, .string p3, .slice h.kA p4.length h.kc, .int .i64 p5, .slice h.mA p6.length h.mc, .slice h.cA p7.length h.cc, .slice h.rA p8.length h.rc, .slice h.zA p9.length h.zc, .slice h.iA p10.length h.ic, .bool p11, .slice h.fA p12.length h.fc])) (fun i _ => p8.length - (intOf i).toNat)
  case atStart => exact ⟨0, by omega, rfl, HL, HB, HKB⟩
  case round =>
    clear HL HB HKB
    obtain ⟨k, hk, rfl, HF, HB, HKB⟩ := hrel
    by_cases hlt : k < p8.length
    · obtain ⟨blk, off, r, hrA, hbB, hmk, e0, e1, hf⟩ := (HRW.out _ HB.out).get (Below.refl _ _) hlt
      have hi1 : (k : Int) < (p8.length : Int) := by omega
      rw [all_step (fun x => decide (x.2.length ≤ 70)) hmk] at HF
      have k7 := HKB.out.c 7 _ rfl
      rw [hrA] at k7
      have hcap := hf.cap
      clear hf hmk
      by_cases hv : r.v.length ≤ 70
      · have h2 : ¬ (70 : Int) < r.v.length := by omega
        rw [decide_eq_true hv] at HF
        simp only [Bool.true_and] at HF
        go_wp2
        go_roundw
        case rel => exact ⟨k + 1, by omega, by go_num, HF, HB, HKB⟩
        case measure => simp [intOf]; omega
      · have h2 : (70 : Int) < r.v.length := by omega
        rw [decide_eq_false hv] at HF
        go_wp2
        go_ret
        exact ⟨ret_bool (by rw [HF.out]; rfl), HB.out⟩
    · obtain rfl : k = p8.length := by omega
      have hi1 : ¬ (p8.length : Int) < (p8.length : Int) := by omega
      rw [List.drop_of_length_le (Nat.le_refl _)] at HF
      simp only [List.all_nil, Bool.true_and] at HF
      have HL : Hid (RS = ((p4.drop 0).all (fun x => decide (x.2.2.length ≤ 200)) && (p10.all okSpot && p9.all okStep))) := HF.out
      clear HF
      obtain ⟨k0, k1, k2, k3, k4, k5, k6, k7, k8, k9, k10, k11⟩ := HKB.out.cs
      go_wp2
      clear k0 k1 k2 k3 k4 k5 k6 k7 k8 k9 k10 k11
      go_loopw [4] (fun i wr => ∃ k : Nat, k ≤ p4.length ∧ i = .int .i64 k ∧ Hid (RS = ((p4.drop k).all (fun x => decide (x.2.2.length ≤ 200)) && (p10.all okSpot && p9.all okStep))) ∧ Hid (Below w.heap.size w wr) ∧ Hid (Blk wr w.heap.size [.int .i64 p1, .string p2, .string p3, .slice h.kA p4.length h.kc, .int .i64 p5, .slice h.mA p6.length h.mc, .slice h.cA p7.length h.cc, .slice h.rA p8.length h.rc, .slice h.zA p9.length h.zc, .slice h.iA p10.length h.ic, .bool p11, .slice h.fA p12.length h.fc])) (fun i _ => p4.length - (intOf i).toNat)
      case atStart => exact ⟨0, by omega, rfl, HL, HB, HKB⟩
      case round =>
        clear HL HB HKB
        obtain ⟨k, hk, rfl, HF, HB, HKB⟩ := hrel
        by_cases hlt : k < p4.length
        · obtain ⟨blk, off, r, hrA, hbB, hmk, e0, e1, e2, hf⟩ := (HKM.out _ HB.out).get (Below.refl _ _) hlt
          have hi1 : (k : Int) < (p4.length : Int) := by omega
          rw [all_step (fun x => decide (x.2.2.length ≤ 200)) hmk] at HF
          have k3 := HKB.out.c 3 _ rfl
          rw [hrA] at k3
          clear hf hmk
          by_cases hv : r.v.length ≤ 200
          · have h2 : ¬ (200 : Int) < r.v.length := by omega
            rw [decide_eq_true hv] at HF
            simp only [Bool.true_and] at HF
            go_wp2
            go_roundw
            case rel => exact ⟨k + 1, by omega, by go_num, HF, HB, HKB⟩
            case measure => simp [intOf]; omega
          · have h2 : (200 : Int) < r.v.length := by omega
            rw [decide_eq_false hv] at HF
            go_wp2
            go_ret
            exact ⟨ret_bool (by rw [HF.out]; rfl), HB.out⟩
        · obtain rfl : k = p4.length := by omega
          have hi1 : ¬ (p4.length : Int) < (p4.length : Int) := by omega
          rw [List.drop_of_length_le (Nat.le_refl _)] at HF
          simp only [List.all_nil, Bool.true_and] at HF
          have HL : Hid (RS = ((p10.drop 0).all okSpot && p9.all okStep)) := HF.out
          clear HF
          obtain ⟨k0, k1, k2, k3, k4, k5, k6, k7, k8, k9, k10, k11⟩ := HKB.out.cs
          go_wp2
          clear k0 k1 k2 k3 k4 k5 k6 k7 k8 k9 k10 k11
          go_loopw [5] (fun i wr => ∃ k : Nat, k ≤ p10.length ∧ i = .int .i64 k ∧ Hid (RS = ((p10.drop k).all okSpot && p9.all okStep)) ∧ Hid (Below w.heap.size w wr) ∧ Hid (Blk wr w.heap.size [.int .i64 p1, .string p2, .string p3, .slice h.kA p4.length h.kc, .int .i64 p5, .slice h.mA p6.length h.mc, .slice h.cA p7.length h.cc, .slice h.rA p8.length h.rc, .slice h.zA p9.length h.zc, .slice h.iA p10.length h.ic, .bool p11, .slice h.fA p12.length h.fc])) (fun i _ => p10.length - (intOf i).toNat)
          case atStart => exact ⟨0, by omega, rfl, HL, HB, HKB⟩
          case round =>
            clear HL HB HKB
            obtain ⟨k, hk, rfl, HF, HB, HKB⟩ := hrel
            by_cases hlt : k < p10.length
            · obtain ⟨blk, off, hiA, hbB, z, hzk, hcell⟩ := (HIT.out _ HB.out).get hlt
              obtain ⟨_, _, _, _, _, e5, e6, e7, _⟩ := By.cellsI_at hcell
              have hi1 : (k : Int) < (p10.length : Int) := by omega
              rw [all_step okSpot hzk] at HF
              obtain ⟨key, ver, dead, x, y, text, held⟩ := z
              have HOK : Hid (okSpot ⟨key, ver, dead, x, y, text, held⟩ = (decide (x ≤ 1099511627776) && (decide (-1099511627776 ≤ x) && (decide (y ≤ 1099511627776) && (decide (-1099511627776 ≤ y) && decide (text.size ≤ 100)))))) := rfl
              rw [HOK.out] at HF
              simp only at e5 e6 e7
              have k9 := HKB.out.c 9 _ rfl
              rw [hiA] at k9
              have hbl : blk < _ := Nat.lt_of_lt_of_le hbB (Nat.le_trans hB HB.out.size)
              have hPw := HKB.out.z
              clear hcell hzk HOK
              replace HKB := Lib.hid (HKB.out.below ((Below.refl _ _).alloc (Nat.le_refl _) (.cells #[.int .i64 x, .int .i64 y] 73)))
              replace HB := Lib.hid (HB.out.alloc HB.out.size (.cells #[.int .i64 x, .int .i64 y] 73))
              by_cases hp : x ≤ 1099511627776
              rotate_left
              · have ga : 1099511627776 < x := by omega
                rw [decide_eq_false hp] at HF
                go_wp2
                go_ret
                exact ⟨ret_bool (by rw [HF.out]; rfl), HB.out⟩
              have ga1 : ¬ 1099511627776 < x := by omega
              rw [decide_eq_true hp] at HF
              clear hp
              by_cases hp : -1099511627776 ≤ x
              rotate_left
              · have gb : x < -1099511627776 := by omega
                rw [decide_eq_false hp] at HF
                go_wp2
                go_ret
                exact ⟨ret_bool (by rw [HF.out]; rfl), HB.out⟩
              have gb1 : ¬ x < -1099511627776 := by omega
              rw [decide_eq_true hp] at HF
              clear hp
              by_cases hp : y ≤ 1099511627776
              rotate_left
              · have ga : 1099511627776 < y := by omega
                rw [decide_eq_false hp] at HF
                go_wp2
                go_ret
                exact ⟨ret_bool (by rw [HF.out]; rfl), HB.out⟩
              have ga2 : ¬ 1099511627776 < y := by omega
              rw [decide_eq_true hp] at HF
              clear hp
              by_cases hp : -1099511627776 ≤ y
              rotate_left
              · have gb : y < -1099511627776 := by omega
                rw [decide_eq_false hp] at HF
                go_wp2
                go_ret
                exact ⟨ret_bool (by rw [HF.out]; rfl), HB.out⟩
              have gb2 : ¬ y < -1099511627776 := by omega
              rw [decide_eq_true hp] at HF
              clear hp
              by_cases hp : text.size ≤ 100
              rotate_left
              · have gt : (100 : Int) < (text.size : Int) := by omega
                rw [decide_eq_false hp] at HF
                go_wp2
                go_ret
                exact ⟨ret_bool (by rw [HF.out]; rfl), HB.out⟩
              have gt : ¬ (100 : Int) < (text.size : Int) := by omega
              rw [decide_eq_true hp] at HF
              clear hp
              simp only [Bool.true_and] at HF
              go_wp2
              go_roundw
              case rel => exact ⟨k + 1, by omega, by go_num, HF, HB, HKB⟩
              case measure => simp [intOf]; omega
            · obtain rfl : k = p10.length := by omega
              have hi1 : ¬ (p10.length : Int) < (p10.length : Int) := by omega
              rw [List.drop_of_length_le (Nat.le_refl _)] at HF
              simp only [List.all_nil, Bool.true_and] at HF
              have HL : Hid (RS = ((p9.drop 0).all okStep)) := HF.out
              clear HF
              obtain ⟨k0, k1, k2, k3, k4, k5, k6, k7, k8, k9, k10, k11⟩ := HKB.out.cs
              go_wp2
              clear k0 k1 k2 k3 k4 k5 k6 k7 k8 k9 k10 k11
              go_loopw [7] (fun i wr => ∃ k : Nat, k ≤ p9.length ∧ i = .int .i64 k ∧ Hid (RS = ((p9.drop k).all okStep)) ∧ Hid (Below w.heap.size w wr) ∧ Hid (Blk wr w.heap.size [.int .i64 p1, .string p2, .string p3, .slice h.kA p4.length h.kc, .int .i64 p5, .slice h.mA p6.length h.mc, .slice h.cA p7.length h.cc, .slice h.rA p8.length h.rc, .slice h.zA p9.length h.zc, .slice h.iA p10.length h.ic, .bool p11, .slice h.fA p12.length h.fc])) (fun i _ => p9.length - (intOf i).toNat)
              case atStart => exact ⟨0, by omega, rfl, HL, HB, HKB⟩
              case round =>
                clear HL HB HKB
                obtain ⟨k, hk, rfl, HF, HB, HKB⟩ := hrel
                by_cases hlt : k < p9.length
                · obtain ⟨blk, off, hzA, hbB, z, hzk, hcell⟩ := (HZT.out _ HB.out).get hlt
                  obtain ⟨e0, e1, e2, e3⟩ := Zo.cellsR_at hcell
                  have hi1 : (k : Int) < (p9.length : Int) := by omega
                  rw [all_step okStep hzk] at HF
                  obtain ⟨op, x, y, sz⟩ := z
                  have HOK : Hid (okStep ⟨op, x, y, sz⟩ = (decide (x ≤ 1099511627776) && (decide (-1099511627776 ≤ x) && (decide (y ≤ 1099511627776) && (decide (-1099511627776 ≤ y) && (decide (sz ≤ 1099511627776) && decide (-1099511627776 ≤ sz))))))) := rfl
                  rw [HOK.out] at HF
                  simp only at e0 e1 e2 e3
                  have k8 := HKB.out.c 8 _ rfl
                  rw [hzA] at k8
                  clear hcell hzk HOK
                  replace HKB := Lib.hid (HKB.out.below ((Below.refl _ _).alloc (Nat.le_refl _) (.cells #[.int .i64 op, .int .i64 x, .int .i64 y, .int .i64 sz] 77)))
                  replace HB := Lib.hid (HB.out.alloc HB.out.size (.cells #[.int .i64 op, .int .i64 x, .int .i64 y, .int .i64 sz] 77))
                  by_cases hp : x ≤ 1099511627776
                  rotate_left
                  · have ga : 1099511627776 < x := by omega
                    rw [decide_eq_false hp] at HF
                    go_wp2
                    go_ret
                    exact ⟨ret_bool (by rw [HF.out]; rfl), HB.out⟩
                  have ga1 : ¬ 1099511627776 < x := by omega
                  rw [decide_eq_true hp] at HF
                  clear hp
                  by_cases hp : -1099511627776 ≤ x
                  rotate_left
                  · have gb : x < -1099511627776 := by omega
                    rw [decide_eq_false hp] at HF
                    go_wp2
                    go_ret
                    exact ⟨ret_bool (by rw [HF.out]; rfl), HB.out⟩
                  have gb1 : ¬ x < -1099511627776 := by omega
                  rw [decide_eq_true hp] at HF
                  clear hp
                  by_cases hp : y ≤ 1099511627776
                  rotate_left
                  · have ga : 1099511627776 < y := by omega
                    rw [decide_eq_false hp] at HF
                    go_wp2
                    go_ret
                    exact ⟨ret_bool (by rw [HF.out]; rfl), HB.out⟩
                  have ga2 : ¬ 1099511627776 < y := by omega
                  rw [decide_eq_true hp] at HF
                  clear hp
                  by_cases hp : -1099511627776 ≤ y
                  rotate_left
                  · have gb : y < -1099511627776 := by omega
                    rw [decide_eq_false hp] at HF
                    go_wp2
                    go_ret
                    exact ⟨ret_bool (by rw [HF.out]; rfl), HB.out⟩
                  have gb2 : ¬ y < -1099511627776 := by omega
                  rw [decide_eq_true hp] at HF
                  clear hp
                  by_cases hp : sz ≤ 1099511627776
                  rotate_left
                  · have ga : 1099511627776 < sz := by omega
                    rw [decide_eq_false hp] at HF
                    go_wp2
                    go_ret
                    exact ⟨ret_bool (by rw [HF.out]; rfl), HB.out⟩
                  have ga3 : ¬ 1099511627776 < sz := by omega
                  rw [decide_eq_true hp] at HF
                  clear hp
                  by_cases hp : -1099511627776 ≤ sz
                  rotate_left
                  · have gb : sz < -1099511627776 := by omega
                    rw [decide_eq_false hp] at HF
                    go_wp2
                    go_ret
                    exact ⟨ret_bool (by rw [HF.out]; rfl), HB.out⟩
                  have gb3 : ¬ sz < -1099511627776 := by omega
                  rw [decide_eq_true hp] at HF
                  clear hp
                  simp only [Bool.true_and] at HF
                  go_wp2
                  go_roundw
                  case rel => exact ⟨k + 1, by omega, by go_num, HF, HB, HKB⟩
                  case measure => simp [intOf]; omega
                · obtain rfl : k = p9.length := by omega
                  have hi1 : ¬ (p9.length : Int) < (p9.length : Int) := by omega
                  rw [List.drop_of_length_le (Nat.le_refl _)] at HF
                  simp only [List.all_nil] at HF
                  have k8 := HKB.out.c 8 _ rfl
                  go_wp2
                  go_ret
                  exact ⟨ret_bool (by rw [HF.out]), HB.out⟩
end Go.Proofs.YtbookbgfipbaoaaGreatDoor

/- The document's Put and PutText. -/
namespace Go.Proofs.YtbookbgfipbaoaaGreatDoor.By
open Go.RowKit

set_option maxRecDepth 100000 in
set_option maxHeartbeats 1000000 in
theorem refPut_any (A : Option Addr) (c g : Nat) (b0 : List UInt8) (n : Int) (w : World) (hz : BytesAt w g A b0.length b0) (hl0 : b0.length ≤ 1000000000) (hn : n ≤ 9223372036854775807) :
    Calls Tryz.prog 52 #[.slice A b0.length c, .int .i64 n] w (OwnBytes (b0 ++ digitsF n.toNat) w) := by
  have HB0 : Hid (Below w.heap.size w (w.alloc (.cells #[] 5))) := (Below.refl _ _).alloc (Nat.le_refl _) _
  have HO0 : Hid ((w.alloc (.cells #[] 5)).ownsRow w.heap.size 5 1 (.slice (some ⟨w.heap.size, 0, none⟩) 0 0) 0 (bytesV [])) := own_empty w
  have HZ0 : Hid (BytesAt (w.alloc (.cells #[] 5)) g A b0.length b0) := hz.keep HB0.out
  clear hz
  go_enter Tryz.func52, Tryz.ntmps52
  go_wp2_with (at_builtin; refine wpList_append_bytes (B := w.heap.size) (g := g) (v := .slice (some ⟨w.heap.size, 0, none⟩) 0 0) (n := 0) (zs := []) (A := A) (m := b0.length) (c := c) (ys := b0) rfl _ _ rfl rfl HO0.out rfl HZ0.out (by omega) HB0.out.size ?_; intro A3 c3 w3 hown3 hg3 _; have HO3 := Lib.hid hown3; have HB3 : Hid (Below w.heap.size w w3) := HB0.out.grown hg3 HB0.out.size (fun i hi => (HO0.out.lt i hi).1); clear hown3 hg3)
  all_goals
    go_loopw [1, 5] (fun x s wr => ∃ (m : Nat) (A : Option Addr) (c : Nat) (bs : List UInt8), x = .int .i64 m ∧ s = .slice A bs.length c ∧ m ≤ 9223372036854775807 ∧ Hid (bs ++ digitsF m = b0 ++ digitsF n.toNat) ∧ Hid (wr.ownsRow w.heap.size 5 1 (.slice A bs.length c) bs.length (bytesV bs)) ∧ Hid (Below w.heap.size w wr)) (fun x _ _ => (intOf x).toNat)
    case atStart => exact ⟨n.toNat, A3, c3, b0, by congr 1; omega, by simp, by omega, rfl, by have := HO3.out; rwa [Nat.zero_add] at this, HB3⟩
    case round =>
      obtain ⟨m, A, c, bs, rfl, rfl, hm, HD, HO, HB⟩ := hrel
      have hl : bs.length ≤ 1000000010 := by
        have h1 := digits_le n hn
        have h2 := congrArg List.length HD.out
        simp at h2
        omega
      by_cases h128 : 128 ≤ m
      · have h1 : (128 : Int) ≤ m := by omega
        have HD2 : Hid ((bs ++ [UInt8.ofNat (m % 128 + 128)]) ++ digitsF (m / 128) = b0 ++ digitsF n.toNat) := by
          show _ = _
          rw [← HD.out, digitsF_big h128]; simp
        have HR : Hid (BytesAt (wr.alloc (.cells #[.int .u8 ((m : Int) % 128 + 128)] 5)) wr.heap.size (some ⟨wr.heap.size, 0, none⟩) 1 [UInt8.ofNat (m % 128 + 128)]) :=
          one_byte (by rw [toNat_ofNat (by omega)]; omega) (heap_alloc_new wr _)
        have HO1 : Hid ((wr.alloc (.cells #[.int .u8 ((m : Int) % 128 + 128)] 5)).ownsRow w.heap.size 5 1 (.slice A bs.length c) bs.length (bytesV bs)) := own_below HO.out ((Below.refl _ _).alloc (Nat.le_refl _) _)
        have HB1 : Hid (Below w.heap.size w (wr.alloc (.cells #[.int .u8 ((m : Int) % 128 + 128)] 5))) := HB.out.alloc HB.out.size _
        have q1 : ((m : Int)).tdiv 128 = ((m / 128 : Nat) : Int) := by rw [Int.tdiv_eq_ediv_of_nonneg (by omega)]; omega
        go_wp2_with (at_builtin; refine wpList_append_bytes (B := w.heap.size) (g := wr.heap.size) (v := .slice A bs.length c) (n := bs.length) (zs := bs) (A := some ⟨wr.heap.size, 0, none⟩) (m := 1) (c := 1) (ys := [UInt8.ofNat (m % 128 + 128)]) rfl _ _ rfl rfl HO1.out rfl HR.out (by omega) HB1.out.size ?_; intro A3 c3 w3 hown3 hg3 _; have HO3 := Lib.hid hown3; have HB3 : Hid (Below w.heap.size w w3) := HB1.out.grown hg3 HB1.out.size (fun i hi => (HO1.out.lt i hi).1); clear hown3 hg3)
        go_roundw
        case rel =>
          exact ⟨m / 128, A3, c3, bs ++ [UInt8.ofNat (m % 128 + 128)], by go_num, by simp, by omega, HD2, by simpa [Hid] using HO3.out, HB3⟩
        case measure => simp [intOf]; omega
      · have h1 : ¬ ((128 : Int) ≤ m) := by omega
        have h2 : (m : Int) % 256 = m := by omega
        have HD2 : Hid (bs ++ [UInt8.ofNat m] = b0 ++ digitsF n.toNat) := by
          show _ = _
          rw [← HD.out, digitsF_small (by omega)]
        have HR : Hid (BytesAt (wr.alloc (.cells #[.int .u8 (m : Int)] 5)) wr.heap.size (some ⟨wr.heap.size, 0, none⟩) 1 [UInt8.ofNat m]) :=
          one_byte (by rw [toNat_ofNat (by omega)]) (heap_alloc_new wr _)
        have HO1 : Hid ((wr.alloc (.cells #[.int .u8 (m : Int)] 5)).ownsRow w.heap.size 5 1 (.slice A bs.length c) bs.length (bytesV bs)) := own_below HO.out ((Below.refl _ _).alloc (Nat.le_refl _) _)
        have HB1 : Hid (Below w.heap.size w (wr.alloc (.cells #[.int .u8 (m : Int)] 5))) := HB.out.alloc HB.out.size _
        go_wp2_with (at_builtin; refine wpList_append_bytes (B := w.heap.size) (g := wr.heap.size) (v := .slice A bs.length c) (n := bs.length) (zs := bs) (A := some ⟨wr.heap.size, 0, none⟩) (m := 1) (c := 1) (ys := [UInt8.ofNat m]) rfl _ _ rfl rfl HO1.out rfl HR.out (by omega) HB1.out.size ?_; intro A3 c3 w3 hown3 hg3 _; have HO3 := Lib.hid hown3; have HB3 : Hid (Below w.heap.size w w3) := HB1.out.grown hg3 HB1.out.size (fun i hi => (HO1.out.lt i hi).1); clear hown3 hg3)
        go_ret
        have e : (b0 ++ digitsF n.toNat).length = bs.length + 1 := by rw [← HD2.out]; simp
        refine ⟨A3, c3, ?_, ?_, HB3.out⟩
        · rw [e]; rfl
        · rw [e, ← HD2.out]; exact HO3.out

theorem wpList_append_text {ops : Array Oper} {rest : List Oper} {o : Oper} {a : Act} {Q : Exit → Act → World → Prop} (hgd : o.guard = none) (sl x : Operand) (ho : o.op = .call { callee := .builtin .append, args := #[sl, x], argTypes := #[48, 9] })
    {w : World} {B : Nat} {v : Value} {n : Nat} {zs : List UInt8} (hs : a.eval sl = v) (hown : w.ownsRow B 5 1 v n (bytesV zs)) {s : ByteArray} (hx : a.eval x = .string s) (hb : n + s.size ≤ 8796093022208) (hB : B ≤ w.heap.size)
    (h : ∀ A' c' w', w'.ownsRow B 5 1 (.slice A' (n + s.size) c') (n + s.size) (bytesV (zs ++ s.data.toList)) → w.grownBy w' v.ownBlock → wpList Tryz.prog ops Q rest (a.put o.dst (.slice A' (n + s.size) c')) w') :
    wpList Tryz.prog ops Q (o :: rest) a w := by
  obtain ⟨i0, hi, hz0, hz1, hz2⟩ := info_parts Tryz.infoB
  refine Lib.wpList_append_own_string w hgd sl x 48 9 ho B 5 i0 Tryz.underlying48 Tryz.underlying9 hi hz0 hz1 hz2 v n (bytesV zs) hs hown s hx (by unfold maxLen; omega) (by omega) hB ?_
  intro v' w' h1 h2 _
  obtain ⟨A', c', rfl⟩ := own_form h1
  exact h A' c' w' (by rw [bytesV_append]; exact h1) h2
set_option maxRecDepth 100000 in
set_option maxHeartbeats 1000000 in
theorem refPutText_any (A : Option Addr) (c g : Nat) (b0 : List UInt8) (s : ByteArray) (w : World) (hz : BytesAt w g A b0.length b0) (hl0 : b0.length ≤ 500000000) (hs : s.size ≤ 500000000) :
    Calls Tryz.prog 51 #[.slice A b0.length c, .string s] w (OwnBytes (b0 ++ (digitsF s.size ++ s.data.toList)) w) := by
  have HZ := Lib.hid hz
  clear hz
  rw [← List.append_assoc]
  go_enter Tryz.func51, Tryz.ntmps51
  go_wp2_with fail
  refine (refPut_any A c g b0 s.size _ HZ.out (by omega) (by omega)).mono ?_
  have hd := digits_le s.size (by omega)
  rw [Int.toNat_natCast] at *
  have hl : (b0 ++ digitsF s.size).length ≤ 500000010 := by simp; omega
  generalize b0 ++ digitsF s.size = zs at *
  rintro e w1 ⟨A1, c1, rfl, hown1, hb1⟩
  have HO1 := Lib.hid hown1
  have HB1 := Lib.hid hb1
  clear hown1 hb1
  go_wp2_with (at_builtin; refine wpList_append_text (B := w.heap.size) (v := .slice A1 zs.length c1) (n := zs.length) (zs := zs) (s := s) rfl _ _ rfl rfl HO1.out rfl (by omega) HB1.out.size ?_; intro A3 c3 w3 hown3 hg3; have HO3 := Lib.hid hown3; have HB3 : Hid (Below w.heap.size w w3) := HB1.out.grown hg3 HB1.out.size (fun i hi => (HO1.out.lt i hi).1); clear hown3 hg3)
  go_ret
  have e : (zs ++ s.data.toList).length = zs.length + s.size := by simp
  refine ⟨A3, c3, ?_, ?_, HB3.out⟩
  · rw [e]; rfl
  · rw [e]; exact HO3.out
end Go.Proofs.YtbookbgfipbaoaaGreatDoor.By
