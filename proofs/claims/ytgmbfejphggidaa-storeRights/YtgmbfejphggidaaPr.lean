/- StoreRights, walked. -/
import Derived.Test.YtgmbfejphggidaaPq
namespace Go.Proofs.Ytgmbfejphggidaa
open Go.RowKit

theorem cutR_upto (A : Option Addr) (n c p : Nat) (h1 : p ≤ n) (h2 : n ≤ c) : ∀ W, (Instr.slice 22 (.slice A n c) none (some (.int .i64 (p : Int))) none).run Try.prog W = .ok (.slice A p c) W := by
  intro W
  have hel : Try.prog.elem 22 = 28 := by kernel_rfl
  have hsz : ∀ W, (sizeOf 28).run Try.prog W = .ok 9 W := fun W => by
    obtain ⟨i, hi, _, hz1, _⟩ := info_parts rowI.i
    simp [sizeOf, typeInfo, hi, hz1]
  rw [run_slice_h (P := Try.prog) W 22 A n c (by rw [hel]; exact Try.underlying22) .i64 (p : Int) (by omega) (by omega), hel, hsz]
  cases A <;> simp [sliced, Result.andThen, Addr.add]
/-- Are the places not too far? -/
def farI (z : Itm) : Prop := 1099511627776 < z.x ∨ z.x < -1099511627776 ∨ 1099511627776 < z.y ∨ z.y < -1099511627776
theorem near_sm {z : Itm} (h : ¬ farI z) : z.x.natAbs < 2 ^ 53 ∧ z.y.natAbs < 2 ^ 53 := by
  unfold farI at h
  constructor <;> omega
set_option maxRecDepth 100000 in
set_option maxHeartbeats 16000000 in
theorem storeRights_walk (A0 : Option Addr) (n0 c0 : Nat) (z0 : List Itm) (A1 : Option Addr) (n1 c1 : Nat) (z1 : List Itm) (w : World) (hz0 : RowAt cellsI 9 w w.heap.size A0 n0 z0) (hc0 : n0 ≤ c0) (hn0 : c0 ≤ 9223372036854775807) (hz1 : RowAt cellsI 9 w w.heap.size A1 n1 z1) (hc1 : n1 ≤ c1) (hn1 : c1 ≤ 9223372036854775807) :
    Calls Try.prog 3 #[.slice A0 n0 c0, .slice A1 n1 c1] w fun e w' => e = .returned (.bool true) ∧ Below w.heap.size w w' := by
  obtain ⟨m0, hm0⟩ : ∃ m : Nat, (if 20 < (n0 : Int) then (20 : Int) else n0) = m := ⟨min n0 20, by split <;> omega⟩
  obtain ⟨m1, hm1⟩ : ∃ m : Nat, (if 20 < (n1 : Int) then (20 : Int) else n1) = m := ⟨min n1 20, by split <;> omega⟩
  have hmn0 : m0 ≤ n0 := by split at hm0 <;> omega
  have hmn1 : m1 ≤ n1 := by split at hm1 <;> omega
  have hm60 : m0 ≤ 20 := by split at hm0 <;> omega
  have hm61 : m1 ≤ 20 := by split at hm1 <;> omega
  have HZ0 := Lib.hid (hz0.take hmn0)
  have HZ1 := Lib.hid (hz1.take hmn1)
  generalize z0.take m0 = x0 at *
  generalize z1.take m1 = x1 at *
  have HL0 := Lib.hid HZ0.out.1
  have HY := Lib.hid (fixS_good x1)
  have HU := Lib.hid (fixS_good x0)
  have HF0 : Hid (∀ w', Below w.heap.size w w' → Calls Try.prog 9 #[.slice A0 m0 c0] w' (OwnRow cellsI 9 28 (fixS x0) w')) := fun w' h => rfix_any A0 m0 c0 x0 w' ((HZ0.out.keep h).more h.size)
  have HF1 : Hid (∀ w', Below w.heap.size w w' → Calls Try.prog 9 #[.slice A1 m1 c1] w' (OwnRow cellsI 9 28 (fixS x1) w')) := fun w' h => rfix_any A1 m1 c1 x1 w' ((HZ1.out.keep h).more h.size)
  generalize fixS x1 = ys at *
  generalize fixS x0 = us at *
  have hu0 := cutR_upto A0 n0 c0 m0 hmn0 hc0
  have hu1 := cutR_upto A1 n1 c1 m1 hmn1 hc1
  clear hz0 hz1
  go_enter Try.func3, Try.ntmps3
  go_wp2_with fail
  go_region
  have HB : Hid (Below w.heap.size w w.drew) := (Below.refl _ _).drew
  have HZ : Hid (RowAt cellsI 9 w.drew w.heap.size A0 m0 x0) := HZ0.out
  generalize w.drew = w0 at *
  go_wp2
  go_loop [5] (fun i => ∃ k : Nat, k ≤ m0 ∧ i = .int .i64 k ∧ Hid (∀ q z, q < k → x0[q]? = some z → ¬ farI z)) (fun i => m0 - (intOf i).toNat)
  case atStart => exact ⟨0, by omega, rfl, fun q z h => absurd h (by omega)⟩
  case round =>
    obtain ⟨k, hk, rfl, HN⟩ := hrel
    by_cases hlt : k < m0
    · obtain ⟨blk, off, rfl, hbB, z, hzk, hcell⟩ := HZ.out.get hlt
      obtain ⟨e0, e1, e2, e3, e4, e5, e6, e7, e8⟩ := cellsI_at hcell
      have hi1 : (k : Int) < m0 := by omega
      clear e0 e1 e2 e3 e4 e7 e8 hcell
      have HNF : Hid (¬ farI z → ∀ q z, q < k + 1 → x0[q]? = some z → ¬ farI z) := fun h q z' hq hz' => by
        by_cases e : q = k
        · subst e; rw [hzk] at hz'; injection hz' with hz'; subst hz'; exact h
        · exact HN.out q z' (by omega) hz'
      have HFA : Hid (farI z ↔ (1099511627776 < z.x ∨ z.x < -1099511627776 ∨ 1099511627776 < z.y ∨ z.y < -1099511627776)) := Iff.rfl
      generalize z.x = zx at *
      generalize z.y = zy at *
      clear hzk HN
      by_cases h0 : 1099511627776 < zx
      · have hd0 := decide_eq_true h0
        clear HNF HFA
        go_wp2_with fail
        refine (told_any _).mono ?_
        rintro e w1 ⟨rfl, hb⟩
        replace HB := Lib.hid (HB.out.trans (hb.mono HB.out.size))
        clear hb
        go_wp2
        go_ret
        exact ⟨rfl, HB.out⟩
      · have hd0 := decide_eq_false h0
        by_cases h1 : zx < -1099511627776
        · have hd1 := decide_eq_true h1
          clear HNF HFA
          go_wp2_with fail
          refine (told_any _).mono ?_
          rintro e w1 ⟨rfl, hb⟩
          replace HB := Lib.hid (HB.out.trans (hb.mono HB.out.size))
          clear hb
          go_wp2
          go_ret
          exact ⟨rfl, HB.out⟩
        · have hd1 := decide_eq_false h1
          by_cases h2 : 1099511627776 < zy
          · have hd2 := decide_eq_true h2
            clear HNF HFA
            go_wp2_with fail
            refine (told_any _).mono ?_
            rintro e w1 ⟨rfl, hb⟩
            replace HB := Lib.hid (HB.out.trans (hb.mono HB.out.size))
            clear hb
            go_wp2
            go_ret
            exact ⟨rfl, HB.out⟩
          · have hd2 := decide_eq_false h2
            by_cases h3 : zy < -1099511627776
            · have hd3 := decide_eq_true h3
              clear HNF HFA
              go_wp2_with fail
              refine (told_any _).mono ?_
              rintro e w1 ⟨rfl, hb⟩
              replace HB := Lib.hid (HB.out.trans (hb.mono HB.out.size))
              clear hb
              go_wp2
              go_ret
              exact ⟨rfl, HB.out⟩
            · have hd3 := decide_eq_false h3
              have hnf : ¬ farI z := by rw [HFA.out]; omega
              have HN2 := Lib.hid (HNF.out hnf)
              clear hnf HNF HFA
              go_wp2_with fail
              go_round
              case rel => exact ⟨k + 1, by omega, by go_num, HN2⟩
              case measure => simp [intOf]; omega
    · obtain rfl : k = m0 := by omega
      have HSM : Hid (∀ z ∈ x0, z.x.natAbs < 2 ^ 53 ∧ z.y.natAbs < 2 ^ 53) := fun z hz => by
        obtain ⟨q, hq⟩ := List.getElem?_of_mem hz
        have := (List.getElem?_eq_some_iff.mp hq).1
        exact near_sm (HN.out q z (by have := HL0.out; omega) hq)
      clear HN HZ
      have hyl := HY.out.len
      have hul := HU.out.len
      obtain ⟨r, hr⟩ : ∃ r, rightS x0 = r := ⟨_, rfl⟩
      obtain ⟨q, hq⟩ : ∃ q, sameS ys us = q := ⟨_, rfl⟩
      have HR := Lib.hid hr
      have HQ := Lib.hid hq
      have HRY : Hid (rightS ys = true) := all_right HY.out.right HY.out.keys (fun q h => by cases h)
      have HMY : Hid (∀ z ∈ ys, z.x.natAbs < 2 ^ 53 ∧ z.y.natAbs < 2 ^ 53) := fun z hz => right_small (HY.out.right z hz)
      have HMU : Hid (∀ z ∈ us, z.x.natAbs < 2 ^ 53 ∧ z.y.natAbs < 2 ^ 53) := fun z hz => right_small (HU.out.right z hz)
      clear hr hq HY HU
      go_wp2_with fail
      refine (HF1.out _ HB.out).mono ?_
      rintro e v1 ⟨Ay, cy, rfl, ho, hb⟩
      have HO := Lib.hid ho
      clear ho
      replace HB := Lib.hid (HB.out.trans (hb.mono HB.out.size))
      clear hb
      go_wp2_with fail
      refine (told_any _).mono ?_
      rintro e v2 ⟨rfl, hb⟩
      replace HO := Lib.hid (rown_below HO.out hb)
      replace HB := Lib.hid (HB.out.trans (hb.mono HB.out.size))
      clear hb
      go_wp2_with fail
      refine (rowTo_any A0 k c0 x0 w.heap.size _ HB.out.size (HZ0.out.keep HB.out) (by omega)).mono ?_
      rintro e v3 ⟨Ap, cp, rfl, ho, hb⟩
      have HP := Lib.hid ho
      clear ho
      replace HO := Lib.hid (rown_below HO.out hb)
      replace HB := Lib.hid (HB.out.trans (hb.mono HB.out.size))
      clear hb
      go_wp2_with fail
      refine (rightS_any Ap x0.length cp x0 v3.heap.size _ (Nat.le_refl _) (own_row rowS HP.out) (by have := HL0.out; omega) HSM.out).mono ?_
      rw [HR.out]
      rintro e v4 ⟨rfl, hb⟩
      replace HO := Lib.hid (rown_below HO.out hb)
      replace HB := Lib.hid (HB.out.trans (hb.mono HB.out.size))
      clear hb
      go_wp2_with fail
      refine (rrightS_any A0 k c0 x0 w.heap.size _ HB.out.size (HZ0.out.keep HB.out) (by omega)).mono ?_
      rw [HR.out]
      rintro e v5 ⟨rfl, hb⟩
      replace HO := Lib.hid (rown_below HO.out hb)
      replace HB := Lib.hid (HB.out.trans (hb.mono HB.out.size))
      clear hb
      go_wp2_with fail
      refine (rowTo_any Ay ys.length cy ys v5.heap.size _ (Nat.le_refl _) (own_row rowI HO.out) (by omega)).mono ?_
      rintro e v6 ⟨Aq, cq, rfl, ho, hb⟩
      have HP2 := Lib.hid ho
      clear ho
      replace HO := Lib.hid (rown_below HO.out hb)
      replace HB := Lib.hid (HB.out.trans (hb.mono HB.out.size))
      clear hb
      go_wp2_with fail
      refine (rightS_any Aq ys.length cq ys v6.heap.size _ (Nat.le_refl _) (own_row rowS HP2.out) (by omega) HMY.out).mono ?_
      rw [HRY.out]
      rintro e v7 ⟨rfl, hb⟩
      replace HO := Lib.hid (rown_below HO.out hb)
      replace HB := Lib.hid (HB.out.trans (hb.mono HB.out.size))
      clear hb
      go_wp2_with fail
      refine (rowTo_any Ay ys.length cy ys v7.heap.size _ (Nat.le_refl _) (own_row rowI HO.out) (by omega)).mono ?_
      rintro e v8 ⟨Ar, cr, rfl, ho, hb⟩
      have HP3 := Lib.hid ho
      clear ho
      replace HO := Lib.hid (rown_below HO.out hb)
      replace HB := Lib.hid (HB.out.trans (hb.mono HB.out.size))
      clear hb
      go_wp2_with fail
      refine (HF0.out _ HB.out).mono ?_
      rintro e v9 ⟨Au, cu, rfl, ho, hb⟩
      have HV := Lib.hid ho
      clear ho
      replace HO := Lib.hid (rown_below HO.out hb)
      replace HP3 := Lib.hid (rown_below HP3.out hb)
      replace HB := Lib.hid (HB.out.trans (hb.mono HB.out.size))
      clear hb
      go_wp2_with fail
      refine (rowTo_any Au us.length cu us v9.heap.size _ (Nat.le_refl _) (own_row rowI HV.out) (by omega)).mono ?_
      rintro e v10 ⟨As, cs, rfl, ho, hb⟩
      have HP4 := Lib.hid ho
      clear ho
      replace HO := Lib.hid (rown_below HO.out hb)
      replace HP3 := Lib.hid (rown_below HP3.out hb)
      replace HB := Lib.hid (HB.out.trans (hb.mono HB.out.size))
      clear hb
      go_wp2_with fail
      refine (sameP_any Ar ys.length cr ys As us.length cs us v10.heap.size _ (own_row rowS HP3.out) (own_row rowS HP4.out) (by omega) HMY.out HMU.out).mono ?_
      rw [HQ.out]
      rintro e v11 ⟨rfl, hb⟩
      replace HO := Lib.hid (rown_below HO.out hb)
      replace HB := Lib.hid (HB.out.trans (hb.mono HB.out.size))
      clear hb
      go_wp2_with fail
      refine (HF0.out _ HB.out).mono ?_
      rintro e v12 ⟨Av, cv, rfl, ho, hb⟩
      have HV2 := Lib.hid ho
      clear ho
      replace HO := Lib.hid (rown_below HO.out hb)
      replace HB := Lib.hid (HB.out.trans (hb.mono HB.out.size))
      clear hb
      go_wp2_with fail
      refine (rsame_any Ay ys.length cy ys Av us.length cv us v12.heap.size _ (own_row rowI HO.out) (own_row rowI HV2.out) (by omega)).mono ?_
      rw [HQ.out]
      rintro e v13 ⟨rfl, hd⟩
      have hb : Below v12.heap.size v12 v13 := by obtain ⟨m, rfl⟩ := hd.out; exact ⟨rfl, rfl, rfl, Nat.le_refl _, fun _ _ => rfl⟩
      replace HB := Lib.hid (HB.out.trans (hb.mono HB.out.size))
      clear hb hd
      go_wp2
      go_ret
      exact ⟨rfl, HB.out⟩
end Go.Proofs.Ytgmbfejphggidaa
